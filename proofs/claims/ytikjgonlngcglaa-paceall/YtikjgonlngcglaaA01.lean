/-
  Plain facts for the walks over package wire: lists of bytes, where a slice's bytes lie in memory. No program is named here.
-/
import Derived.WalkKit
import Derived.WalkSpells
import Derived.WalkLawsBesides
import Derived.Deep.QuietTactic
import Derived.BigQuiet
import Derived.Laws.AppendOwnNone
import Derived.Test.YtikjgonlngcglaaProg
import Derived.Lib.SlBytesConst
import Derived.Test.YtikjgonlngcglaaRows
import Derived.ProofKit
import Derived.OpenShut
import Derived.SizedLaws
import Derived.BigRegion
import Derived.Handy
import Derived.Deep.Cut
import Derived.Deep.RegionHeld3
import Derived.Lib.BitFns
import Derived.Deep.Slices
import Derived.RangeFuncNested
import Derived.RangeFuncLeaves
import Derived.Below
import Derived.Deep.AppendLies
import Derived.Deep.RegionHeld
namespace Go.Proofs.Ytikjgonlngcglaa
open Go.RowKit
/-- Bytes l lie from address ao on (nothing is said of ao where l is empty). -/
def Rd (w : World) (ao : Option Addr) (l : List UInt8) : Prop :=
  ∀ i (h : i < l.length), ∃ b off, ao = some ⟨b, off, none⟩ ∧ w.cell? ⟨b, off + i, none⟩ = some (.int .u8 (l[i].toNat : Int))
theorem Rd.at {w : World} {ao : Option Addr} {l : List UInt8} (h : Rd w ao l) (hl : 0 < l.length) :
    ∃ b off, ao = some ⟨b, off, none⟩ ∧ ∀ i (h : i < l.length), w.cell? ⟨b, off + i, none⟩ = some (.int .u8 (l[i].toNat : Int)) := by
  obtain ⟨b, off, e, _⟩ := h 0 hl
  refine ⟨b, off, e, fun i hi => ?_⟩
  obtain ⟨b', off', e', hc⟩ := h i hi
  rw [e] at e'
  simp only [Option.some.injEq, Addr.mk.injEq] at e'
  obtain ⟨rfl, rfl, _⟩ := e'
  exact hc
/-- The world has only drawn. -/
def Qt (w w' : World) : Prop := ∃ k, w' = w.drewN k
theorem Qt.refl (w : World) : Qt w w := ⟨0, rfl⟩
theorem Qt.drewN {w u : World} (h : Qt w u) (n : Nat) : Qt w (u.drewN n) := by
  obtain ⟨k, rfl⟩ := h; exact ⟨k + n, by simp⟩
theorem Qt.trans {w u v : World} (h : Qt w u) (g : Qt u v) : Qt w v := by
  obtain ⟨n, rfl⟩ := g; exact h.drewN n
theorem Qt.cell {w u : World} (h : Qt w u) (a : Addr) : u.cell? a = w.cell? a := by obtain ⟨k, rfl⟩ := h; rfl
theorem Qt.below {w u : World} (h : Qt w u) (B : Nat) : Below B w u := by
  obtain ⟨k, rfl⟩ := h; exact below_drewN (Below.refl _ _) k
theorem Qt.size {w u : World} (h : Qt w u) : u.heap.size = w.heap.size := by obtain ⟨k, rfl⟩ := h; rfl
end Go.Proofs.Ytikjgonlngcglaa

/-
  The forms of package wire as plain functions on lists of bytes: the varint's form, and what it is worth.
-/
namespace Go.Proofs.Ytikjgonlngcglaa
def encF : Nat → Nat → List UInt8
  | 0, _ => []
  | f + 1, n => if n < 128 then [UInt8.ofNat n] else UInt8.ofNat (n % 128 + 128) :: encF f (n / 128)
/-- The varint of n (below 2^64). -/
def enc (n : Nat) : List UInt8 := encF 10 n
end Go.Proofs.Ytikjgonlngcglaa

/-
  A slice of bytes as a list of bytes: Sl; what keeps it; append of such a slice onto one that the call made. No program is named here.
-/
namespace Go.Proofs.Ytikjgonlngcglaa
open Go.RowKit
/-- The value v is a slice whose bytes are l. -/
def Sl (w : World) (v : Value) (l : List UInt8) : Prop :=
  ∃ ao cap, v = .slice ao l.length cap ∧ (ao = none → l = [] ∧ cap = 0) ∧ l.length ≤ cap ∧ cap ≤ maxLen ∧ Rd w ao l
theorem lt_of_cell {w : World} {a : Addr} {v : Value} (h : w.cell? a = some v) : a.block < w.heap.size := by
  unfold World.cell? at h
  by_cases hb : a.block < w.heap.size
  · exact hb
  · rw [Array.getElem?_eq_none (by omega)] at h; simp at h
theorem Sl.nil (w : World) : Sl w (.slice none 0 0) [] := ⟨none, 0, rfl, fun _ => ⟨rfl, rfl⟩, Nat.le_refl _, Nat.zero_le _, fun i hi => by simp at hi⟩
end Go.Proofs.Ytikjgonlngcglaa

/-
  Plain facts for the walks of a seat that has none of wire's: literals of bytes, what a call may have turned. No function is named here.
-/
namespace Go.Proofs.Ytikjgonlngcglaa
open Go.RowKit
theorem addr_add (b off k : Nat) : (⟨b, off, none⟩ : Addr).add k = ⟨b, off + k, none⟩ := by
  unfold Addr.add; split <;> simp_all
theorem grown_setCell (w : World) (rb o : Nat) (u : Value) : w.grownBy (w.setCell ⟨rb, o, none⟩ u) (some rb) :=
  ⟨rfl, rfl, rfl, by simp, fun k _ hk => heap_setCell_other w ⟨rb, o, none⟩ k u (fun e => hk (by simp [e]))⟩
theorem heap_lt {w : World} {k : Nat} {o : Obj} (h : w.heap[k]? = some o) : k < w.heap.size := by
  by_cases hb : k < w.heap.size
  · exact hb
  · rw [Array.getElem?_eq_none (by omega)] at h; simp at h
theorem box_below (w : World) (o : Obj) : Below w.heap.size w (w.alloc o) := (Below.refl _ _).alloc (Nat.le_refl _) _
end Go.Proofs.Ytikjgonlngcglaa

/-
  An argument of type []byte, opened: the bytes that it holds, and that they lie within the reach.
-/
namespace Go.Proofs.Ytikjgonlngcglaa
open Go.ChangeShapes Go.WideShapes Go.ChangeAt Go.RowKit
theorem u64_bounds {n : Int} (h : (Lit.int .u64 n).wf = true) : 0 ≤ n ∧ n < 18446744073709551616 := by
  have hx : 0 ≤ n ∧ n ≤ 18446744073709551615 := by simpa [Lit.wf, IntKind.min, IntKind.max, IntKind.signed, IntKind.bits] using h
  omega
theorem i64_bounds {n : Int} (h : (Lit.int .i64 n).wf = true) : -9223372036854775808 ≤ n ∧ n ≤ 9223372036854775807 := by
  simpa [Lit.wf, IntKind.min, IntKind.max, IntKind.signed, IntKind.bits] using h
end Go.Proofs.Ytikjgonlngcglaa

/-
  Whole numbers of many words of 64 bits, the lowest first. No program is named here.
-/
namespace Go.Proofs.Ytikjgonlngcglaa.Rl
open Go.RowKit
def val : List Nat → Nat
  | [] => 0
  | d :: r => d + 18446744073709551616 * val r
def Ws (ds : List Nat) : Prop := ∀ d ∈ ds, d < 18446744073709551616
theorem Ws.set {ds : List Nat} (h : Ws ds) (i x : Nat) (hx : x < 18446744073709551616) : Ws (ds.set i x) := by
  intro d hd
  rcases List.mem_or_eq_of_mem_set hd with hd | rfl
  · exact h d hd
  · exact hx
end Go.Proofs.Ytikjgonlngcglaa.Rl

/-
  Package real, number by number: what its functions of one and of two numbers answer, by the bits; the document's own answers are the same.
-/
namespace Go.Proofs.Ytikjgonlngcglaa.Rl
open Go.RowKit
set_option maxRecDepth 100000
theorem bits_run (b : Nat) (w : World) : (callFunc 27 #[.float .f64 b]).run Try.prog w = .ok (.value (.int .u64 b)) w := by
  rw [run_callFunc_extern Try.func27 (by kernel_rfl) (by kernel_rfl) (by kernel_rfl) (e := Extern.MathFloatBits.float64bits) (by kernel_rfl)]
  rfl
theorem of_run (n : Int) (w : World) : (callFunc 14 #[.int .u64 n]).run Try.prog w = .ok (.value (.float .f64 n.toNat)) w := by
  rw [run_callFunc_extern Try.func14 (by kernel_rfl) (by kernel_rfl) (by kernel_rfl) (e := Extern.MathFloatBits.float64frombits) (by kernel_rfl)]
  rfl
theorem ofInt64 (a : Nat) (ha : a < 18446744073709551616) : (BitVec.ofInt 64 (a : Int)).toNat = a := by
  rw [BitVec.ofInt_natCast, BitVec.toNat_ofNat]; exact Nat.mod_eq_of_lt (by omega)
theorem andNot_nat (a b : Nat) (ha : a < 18446744073709551616) (hb : b < 18446744073709551616) :
    bits .andNot .u64 (a : Int) (b : Int) = ((a &&& (18446744073709551615 - b) : Nat) : Int) := by
  have hx : a &&& (18446744073709551615 - b) < 2 ^ 64 := Nat.and_lt_two_pow _ (by omega)
  show IntKind.u64.wrap ((BitVec.ofInt 64 (a : Int) &&& ~~~ BitVec.ofInt 64 (b : Int)).toNat : Int) = _
  rw [BitVec.toNat_and, BitVec.toNat_not, ofInt64 a ha, ofInt64 b hb, IntKind.wrap_u64]
  have : 2 ^ 64 - 1 - b = 18446744073709551615 - b := by omega
  rw [this]; omega
theorem and_low (a : Nat) (k : Nat) : a &&& (2 ^ k - 1) = a % 2 ^ k := Nat.and_two_pow_sub_one_eq_mod a k
theorem andNot_top (b : Nat) (hb : b < 18446744073709551616) : bits .andNot .u64 (b : Int) 9223372036854775808 = ((b % 9223372036854775808 : Nat) : Int) := by
  have h := andNot_nat b 9223372036854775808 hb (by omega)
  rw [show 18446744073709551615 - 9223372036854775808 = 2 ^ 63 - 1 by omega, and_low] at h
  exact h
theorem and_mask (b : Nat) (hb : b < 18446744073709551616) : bits .and .u64 (b : Int) 9223372036854775807 = ((b % 9223372036854775808 : Nat) : Int) := by
  have h := bits_and_u64_nat b 9223372036854775807 hb (by omega)
  rw [show 9223372036854775807 = 2 ^ 63 - 1 by omega, and_low] at h
  exact h
def nanB (b : Nat) : Bool := decide (b % 9223372036854775808 > 9218868437227405312)
def canonB (b : Nat) : Nat := if nanB b then 9221120237041090561 else b
def rankB (m : Nat) : Int := if m = 0 then 0 else if m < 4503599627370496 then 1 else if m < 9218868437227405312 then 2 else 3
def classB (b : Nat) : Int := if nanB b then 1 else if b < 9223372036854775808 then 6 + rankB b else 5 - rankB (b - 9223372036854775808)
theorem isNaN_any (w : World) (b : Nat) (hb : b < 18446744073709551616) :
    Calls Try.prog 33 #[.float .f64 b] w fun e w' => e = .returned (.bool (nanB b)) ∧ w' = w := by
  have k1 := bits_run
  have k2 := andNot_top b hb
  go_enter Try.func33, Try.ntmps33
  go_wp2
  go_ret
  refine ⟨congrArg (fun x => Ending.returned (Value.bool x)) (?_ : decide _ = decide _), rfl⟩
  apply decide_eq_decide.2; omega
theorem refNaN_any (w : World) (b : Nat) (hb : b < 18446744073709551616) :
    Calls Try.prog 31 #[.float .f64 b] w fun e w' => e = .returned (.bool (nanB b)) ∧ w' = w := by
  have k1 := bits_run
  have k2 := and_mask b hb
  go_enter Try.func31, Try.ntmps31
  go_wp2
  go_ret
  refine ⟨congrArg (fun x => Ending.returned (Value.bool x)) (?_ : decide _ = decide _), rfl⟩
  apply decide_eq_decide.2; omega
theorem nan_any (w : World) :
    Calls Try.prog 34 #[] w fun e w' => e = .returned (.float .f64 9221120237041090561) ∧ w' = w := by
  have k2 := of_run
  go_enter Try.func34, Try.ntmps34
  go_wp2
  go_ret
  exact ⟨rfl, rfl⟩
theorem canon_any (w : World) (b : Nat) (hb : b < 18446744073709551616) :
    Calls Try.prog 28 #[.float .f64 b] w fun e w' => e = .returned (.float .f64 (canonB b)) ∧ w' = w := by
  go_enter Try.func28, Try.ntmps28
  go_wp2_with fail
  refine (isNaN_any _ b hb).mono ?_
  rintro e w1 ⟨rfl, rfl⟩
  cases hn : nanB b with
  | true =>
    go_wp2_with fail
    refine (nan_any _).mono ?_
    rintro e w2 ⟨rfl, rfl⟩
    go_wp2
    go_ret
    exact ⟨by rw [canonB, hn]; rfl, rfl⟩
  | false =>
    go_wp2
    go_ret
    exact ⟨by rw [canonB, hn]; rfl, rfl⟩
theorem refCanon_any (w : World) (b : Nat) (hb : b < 18446744073709551616) :
    Calls Try.prog 32 #[.float .f64 b] w fun e w' => e = .returned (.float .f64 (canonB b)) ∧ w' = w := by
  have k2 := of_run
  go_enter Try.func32, Try.ntmps32
  go_wp2_with fail
  refine (refNaN_any _ b hb).mono ?_
  rintro e w1 ⟨rfl, rfl⟩
  cases hn : nanB b with
  | true =>
    go_wp2
    go_ret
    exact ⟨by rw [canonB, hn]; rfl, rfl⟩
  | false =>
    go_wp2
    go_ret
    exact ⟨by rw [canonB, hn]; rfl, rfl⟩
end Go.Proofs.Ytikjgonlngcglaa.Rl

/-
  Package real, number by number (on): classes, keys back, the order, the next one, how far apart; the document's own answers are the same.
-/
namespace Go.Proofs.Ytikjgonlngcglaa.Rl
open Go.RowKit
set_option maxRecDepth 100000
theorem bits_any (w : World) (a b : Nat) :
    Calls Try.prog 17 #[.float .f64 a, .float .f64 b] w fun e w' => e = .returned (.bool (decide (a = b))) ∧ w' = w := by
  have k1 := bits_run
  go_enter Try.func17, Try.ntmps17
  go_wp2
  go_ret
  refine ⟨congrArg (fun x => Ending.returned (Value.bool x)) (?_ : (_ : Bool) = _), rfl⟩
  show decide ((a : Int) = b) = _
  apply decide_eq_decide.2; omega
end Go.Proofs.Ytikjgonlngcglaa.Rl

/-
  Package real: how far apart two numbers stand; the document's own answer is the same.
-/
namespace Go.Proofs.Ytikjgonlngcglaa.Rl
open Go.RowKit
set_option maxRecDepth 100000
end Go.Proofs.Ytikjgonlngcglaa.Rl

/-
  Package real's exact sums: words in memory; which of two is less.
-/
namespace Go.Proofs.Ytikjgonlngcglaa.Rl
open Go.RowKit
set_option maxRecDepth 100000
def wcells (ds : List Nat) : Array Value := (ds.map fun d : Nat => Value.int .u64 (d : Int)).toArray
/-- Block b holds the 34 words ds. -/
def Un (q : World) (b : Nat) (ds : List Nat) : Prop := ds.length = 34 ∧ Ws ds ∧ ∃ T, q.heap[b]? = some (.cells (wcells ds) T (0, 0))
theorem Un.cell {q : World} {b : Nat} {ds : List Nat} (h : Un q b ds) (i : Nat) (hi : i < ds.length) : q.cell? ⟨b, i, none⟩ = some (.int .u64 (ds[i] : Int)) := by
  obtain ⟨_, _, _, h⟩ := h
  unfold World.cell?
  simp only [h]
  simp [wcells, hi]
theorem Un.frozen {q : World} {b : Nat} {ds : List Nat} (h : Un q b ds) (i : Nat) : q.frozen? ⟨b, i, none⟩ = false := by
  obtain ⟨_, _, _, h⟩ := h
  simp [World.frozen?, h]
theorem Un.set {q : World} {b : Nat} {ds : List Nat} (h : Un q b ds) (i x : Nat) (hx : x < 18446744073709551616) : Un (q.setCell ⟨b, i, none⟩ (.int .u64 (x : Int))) b (ds.set i x) := by
  obtain ⟨h1, h2, T, h3⟩ := h
  refine ⟨by simpa using h1, h2.set i x hx, T, ?_⟩
  rw [heap_setCell_same q b i _ _ _ h3]
  congr 2
  simp [wcells, List.map_set]
theorem Un.drew {q : World} {b : Nat} {ds : List Nat} (h : Un q b ds) : Un q.drew b ds := h
theorem Un.below {q q' : World} {b : Nat} {ds : List Nat} (h : Un q b ds) (hb : Below q.heap.size q q') : Un q' b ds := by
  obtain ⟨h1, h2, T, h3⟩ := h
  exact ⟨h1, h2, T, by rw [hb.block b (heap_lt h3)]; exact h3⟩
/-- How many times 2^-1074 a finite number of the bits s is. -/
def magB (s : Nat) : Nat := if s < 4503599627370496 then s else (s % 4503599627370496 + 4503599627370496) * 2 ^ (s / 4503599627370496 - 1)
end Go.Proofs.Ytikjgonlngcglaa.Rl

/-
  Package real's exact sums: a number added, a sum taken away.
-/
namespace Go.Proofs.Ytikjgonlngcglaa.Rl
open Go.RowKit
set_option maxRecDepth 100000
end Go.Proofs.Ytikjgonlngcglaa.Rl

/-
  How many bits a number has; package real's exact sums: how many bits one has, which bits it has, what is left of it without its lowest ones.
-/
namespace Go.Proofs.Ytikjgonlngcglaa.Rl
open Go.RowKit
set_option maxRecDepth 100000
end Go.Proofs.Ytikjgonlngcglaa.Rl

/-
  Package real's exact sums: single bits, what is left without the lowest bits, whether one of the lowest is set.
-/
namespace Go.Proofs.Ytikjgonlngcglaa.Rl
open Go.RowKit
set_option maxRecDepth 100000
end Go.Proofs.Ytikjgonlngcglaa.Rl

/-
  Package real's exact sums: the number that is next to one.
-/
namespace Go.Proofs.Ytikjgonlngcglaa.Rl
open Go.RowKit
set_option maxRecDepth 100000
/-- Is one added to what is kept of V, without its lowest s bits? -/
def upB (V s : Nat) : Bool := decide (V / 2 ^ (s - 1) % 2 = 1) && (decide (V / 2 ^ s % 2 = 1) || decide (V % 2 ^ (s - 1) ≠ 0))
/-- The bits of the number next to V times 2^-1074, of two that are as near the even one. -/
def roundB (V : Nat) : Nat := if V < 9007199254740992 then V else min ((V.log2 - 52) * 4503599627370496 + V / 2 ^ (V.log2 - 52) + (upB V (V.log2 - 52)).toNat) 9218868437227405312
end Go.Proofs.Ytikjgonlngcglaa.Rl

/-
  Slices of one-cell elements as lists of values; arguments of types []uint64, []int64, []int and [][]byte, opened.
-/
namespace Go.Proofs.Ytikjgonlngcglaa
open Go.ChangeShapes Go.WideShapes Go.ChangeAt Go.RowKit Go.Deep
/-- Values vs lie from address ao on. -/
def At (w : World) (ao : Option Addr) (vs : List Value) : Prop :=
  ∀ i (h : i < vs.length), ∃ b off, ao = some ⟨b, off, none⟩ ∧ w.cell? ⟨b, off + i, none⟩ = some vs[i]
/-- The value v is a slice of the values vs. -/
def Row (w : World) (v : Value) (vs : List Value) : Prop :=
  ∃ ao cap, v = .slice ao vs.length cap ∧ (ao = none → vs = [] ∧ cap = 0) ∧ vs.length ≤ cap ∧ cap ≤ maxLen ∧ At w ao vs
theorem At.at {w : World} {ao : Option Addr} {vs : List Value} (h : At w ao vs) (hl : 0 < vs.length) :
    ∃ b off, ao = some ⟨b, off, none⟩ ∧ ∀ i (h : i < vs.length), w.cell? ⟨b, off + i, none⟩ = some vs[i] := by
  obtain ⟨b, off, e, _⟩ := h 0 hl
  refine ⟨b, off, e, fun i hi => ?_⟩
  obtain ⟨b', off', e', hc⟩ := h i hi
  rw [e] at e'
  simp only [Option.some.injEq, Addr.mk.injEq] at e'
  obtain ⟨rfl, rfl, _⟩ := e'
  exact hc
theorem Row.nil (w : World) : Row w (.slice none 0 0) [] := ⟨none, 0, rfl, fun _ => ⟨rfl, rfl⟩, Nat.le_refl _, Nat.zero_le _, fun i hi => by simp at hi⟩
theorem Below.row {w w' : World} (h : Below w.heap.size w w') {v : Value} {vs : List Value} (g : Row w v vs) : Row w' v vs := by
  obtain ⟨ao, cap, h1, h2, h3, h4, h5⟩ := g
  refine ⟨ao, cap, h1, h2, h3, h4, fun i hi => ?_⟩
  obtain ⟨b, off, e, hc⟩ := h5 i hi
  exact ⟨b, off, e, by rw [h.cell (p := ⟨b, off + i, none⟩) (lt_of_cell hc)]; exact hc⟩
end Go.Proofs.Ytikjgonlngcglaa

/-
  Package real's exact sums: what the classes alone say.
-/
namespace Go.Proofs.Ytikjgonlngcglaa.Rl
open Go.RowKit
set_option maxRecDepth 100000
def cnt (xs : List Nat) (c : Nat) : Nat := xs.countP fun b => classB b == (c : Int)
def counts (xs : List Nat) : List Nat := (List.range 10).map (cnt xs)
def ccells (xs : List Nat) : Array Value := ((counts xs).map fun n : Nat => Value.int .i64 (n : Int)).toArray
/-- Block b holds how many there are of each class. -/
def Ct (q : World) (b : Nat) (xs : List Nat) : Prop := ∃ T, q.heap[b]? = some (.cells (ccells xs) T (0, 0))
theorem Ct.cell {q : World} {b : Nat} {xs : List Nat} (h : Ct q b xs) (i : Nat) (hi : i < 10) : q.cell? ⟨b, i, none⟩ = some (.int .i64 (cnt xs i : Int)) := by
  obtain ⟨_, h⟩ := h
  unfold World.cell?
  simp only [h]
  simp [ccells, counts, hi]
theorem Ct.frozen {q : World} {b : Nat} {xs : List Nat} (h : Ct q b xs) (i : Nat) : q.frozen? ⟨b, i, none⟩ = false := by
  obtain ⟨_, h⟩ := h
  simp [World.frozen?, h]
theorem Ct.below {q q' : World} {b : Nat} {xs : List Nat} (h : Ct q b xs) (hb : Below q.heap.size q q') : Ct q' b xs := by
  obtain ⟨T, h⟩ := h
  exact ⟨T, by rw [hb.block b (heap_lt h)]; exact h⟩
theorem Ct.new (w : World) (cs : Array Value) (T : TypeId) (hs : cs = ccells []) : Ct (w.alloc (.cells cs T)) w.heap.size [] := ⟨T, by rw [heap_alloc_new, hs]⟩
end Go.Proofs.Ytikjgonlngcglaa.Rl

/-
  Package real's exact sums: what Sum answers.
-/
namespace Go.Proofs.Ytikjgonlngcglaa.Rl
open Go.RowKit
set_option maxRecDepth 100000
theorem pow_le2 (a b : Nat) (h : a ≤ b) : 2 ^ a ≤ 2 ^ b := Nat.pow_le_pow_right Nat.two_pos h
theorem Un.new {w : World} {b : Nat} {cs : Array Value} {T : TypeId} (h : w.heap[b]? = some (.cells cs T (0, 0))) (hs : cs = wcells (List.replicate 34 0)) : Un w b (List.replicate 34 0) :=
  ⟨by simp, fun d hd => by simp at hd; omega, T, by rw [h, hs]⟩
end Go.Proofs.Ytikjgonlngcglaa.Rl

/-
  How Go's own less stands to the order of package real.
-/
namespace Go.Proofs.Ytikjgonlngcglaa.Rl
open Go.RowKit
set_option maxRecDepth 100000
def sg (b : Nat) : Int := if b < 9223372036854775808 then (magB b : Int) else -(magB (b - 9223372036854775808) : Int)
theorem fmt_sign : Ieee.double.signWeight = 9223372036854775808 := by decide +kernel
theorem fmt_bin : Ieee.double.binade = 4503599627370496 := by decide +kernel
theorem fmt_inf : Ieee.double.infRung = 9218868437227405312 := by decide +kernel
theorem fmt_least : Ieee.double.leastPlace = -1074 := by decide +kernel
def sgnB (b : Nat) : Bool := b / 9223372036854775808 % 2 == 1
theorem read_nan {b : Nat} (h : nanB b = true) : ∃ t, Ieee.double.read b = .nan (sgnB b) t := by
  have h1 : b % 9223372036854775808 > 9218868437227405312 := of_decide_eq_true h
  unfold Ieee.Format.read
  rw [fmt_sign, fmt_bin, fmt_inf, fmt_least]
  simp only
  rw [if_neg (by omega), if_neg (by omega), if_neg (by omega)]
  exact ⟨_, rfl⟩
theorem read_inf {b : Nat} (h : b % 9223372036854775808 = 9218868437227405312) : Ieee.double.read b = .infinity (sgnB b) := by
  unfold Ieee.Format.read
  rw [fmt_sign, fmt_bin, fmt_inf, fmt_least]
  simp only
  rw [if_neg (by omega), if_neg (by omega), if_pos h]
  rfl
theorem read_fin {b : Nat} (h : b % 9223372036854775808 < 9218868437227405312) : ∃ m k : Nat, Ieee.double.read b = .number (sgnB b) m (-1074 + (k : Int)) ∧ m * 2 ^ k = magB (b % 9223372036854775808) := by
  unfold Ieee.Format.read magB
  rw [fmt_sign, fmt_bin, fmt_inf, fmt_least]
  simp only
  by_cases h1 : b % 9223372036854775808 < 4503599627370496
  · rw [if_pos h1, if_pos h1]
    exact ⟨_, 0, rfl, by simp⟩
  · rw [if_neg h1, if_neg h1, if_pos h]
    refine ⟨_, _, rfl, ?_⟩
    rw [Nat.add_comm]
theorem mag_mono {s t : Nat} (h : s < t) : magB s < magB t := by
  unfold magB
  by_cases h1 : s < 4503599627370496
  · rw [if_pos h1]
    by_cases h2 : t < 4503599627370496
    · rw [if_pos h2]; exact h
    · rw [if_neg h2]
      have : 1 ≤ 2 ^ (t / 4503599627370496 - 1) := Nat.two_pow_pos _
      exact Nat.lt_of_lt_of_le (by omega : s < (t % 4503599627370496 + 4503599627370496)) (Nat.le_mul_of_pos_right _ this)
  · rw [if_neg h1, if_neg (by omega)]
    by_cases he : s / 4503599627370496 = t / 4503599627370496
    · rw [he]
      exact Nat.mul_lt_mul_of_pos_right (by omega) (Nat.two_pow_pos _)
    · have h3 : s / 4503599627370496 < t / 4503599627370496 := by
        have : s / 4503599627370496 ≤ t / 4503599627370496 := Nat.div_le_div_right (by omega)
        omega
      have h4 : 2 ^ (s / 4503599627370496 - 1) * 2 ≤ 2 ^ (t / 4503599627370496 - 1) := by
        rw [← Nat.pow_succ]; exact Nat.pow_le_pow_right Nat.two_pos (by omega)
      have h5 : (s % 4503599627370496 + 4503599627370496) * 2 ^ (s / 4503599627370496 - 1) < 9007199254740992 * 2 ^ (s / 4503599627370496 - 1) := Nat.mul_lt_mul_of_pos_right (by omega) (Nat.two_pow_pos _)
      have h6 : 4503599627370496 * (2 ^ (s / 4503599627370496 - 1) * 2) ≤ 4503599627370496 * 2 ^ (t / 4503599627370496 - 1) := Nat.mul_le_mul_left _ h4
      have h7 : 4503599627370496 * 2 ^ (t / 4503599627370496 - 1) ≤ (t % 4503599627370496 + 4503599627370496) * 2 ^ (t / 4503599627370496 - 1) := Nat.mul_le_mul_right _ (by omega)
      omega
theorem mag_inj {s t : Nat} (h : magB s = magB t) : s = t := by
  rcases Nat.lt_trichotomy s t with h1 | h1 | h1
  · have := mag_mono h1; omega
  · exact h1
  · have := mag_mono h1; omega
theorem mag_zero : magB 0 = 0 := by decide
theorem mul_cmp (x y : Int) (p : Nat) (hp : 0 < p) : compare x y = compare (x * p) (y * p) := by
  have hp' : (0 : Int) < p := by omega
  rcases Int.lt_trichotomy x y with h | h | h
  · rw [Int.compare_eq_lt.2 h, Int.compare_eq_lt.2 (Int.mul_lt_mul_of_pos_right h hp')]
  · subst h; rw [Int.compare_eq_eq.2 rfl, Int.compare_eq_eq.2 rfl]
  · rw [Int.compare_eq_gt.2 h, Int.compare_eq_gt.2 (Int.mul_lt_mul_of_pos_right h hp')]
theorem sg_eq {b : Nat} (hb : b < 18446744073709551616) : sg b = if sgnB b then -(magB (b % 9223372036854775808) : Int) else (magB (b % 9223372036854775808) : Int) := by
  unfold sg sgnB
  by_cases h : b < 9223372036854775808
  · rw [if_pos h, show b / 9223372036854775808 % 2 = 0 by omega, show b % 9223372036854775808 = b by omega]; exact (if_neg (by decide)).symm
  · rw [if_neg h, show b / 9223372036854775808 % 2 = 1 by omega, show b % 9223372036854775808 = b - 9223372036854775808 by omega]; exact (if_pos (by decide)).symm
theorem signed_mul (s : Bool) (m h e : Nat) (he : e ≤ h) : Ieee.signed s m (h - e) * ((2 ^ e : Nat) : Int) = if s then -((m * 2 ^ h : Nat) : Int) else ((m * 2 ^ h : Nat) : Int) := by
  unfold Ieee.signed
  have e1 : m <<< (h - e) * 2 ^ e = m * 2 ^ h := by
    rw [Nat.shiftLeft_eq, Nat.mul_assoc, ← Nat.pow_add, Nat.sub_add_cancel he]
  cases s
  · simp only [Bool.false_eq_true, if_false]; rw [← e1]; simp
  · simp only [if_true]; rw [← e1, Int.neg_mul]; simp
theorem order_eq {a b : Nat} (ha : a < 18446744073709551616) (hb : b < 18446744073709551616) (na : nanB a = false) (nb : nanB b = false) : FloatKind.f64.format.order a b = some (compare (sg a) (sg b)) := by
  have ha1 : ¬ a % 9223372036854775808 > 9218868437227405312 := of_decide_eq_false na
  have hb1 : ¬ b % 9223372036854775808 > 9218868437227405312 := of_decide_eq_false nb
  show (Ieee.double.read a).order (Ieee.double.read b) = _
  rw [sg_eq ha, sg_eq hb]
  rcases Nat.lt_or_ge (a % 9223372036854775808) 9218868437227405312 with h1 | h1
  · obtain ⟨m, h, ea, em⟩ := read_fin h1
    rw [ea, ← em]
    rcases Nat.lt_or_ge (b % 9223372036854775808) 9218868437227405312 with h2 | h2
    · obtain ⟨n, k, eb, en⟩ := read_fin h2
      rw [eb, ← en]
      show some (compare _ _) = _
      rw [show ((-1074 + (h : Int)) - min (-1074 + (h : Int)) (-1074 + (k : Int))).toNat = h - min h k by omega,
        show ((-1074 + (k : Int)) - min (-1074 + (h : Int)) (-1074 + (k : Int))).toNat = k - min h k by omega,
        mul_cmp _ _ (2 ^ min h k) (Nat.two_pow_pos _), signed_mul _ _ _ _ (Nat.min_le_left _ _), signed_mul _ _ _ _ (Nat.min_le_right _ _)]
    · have h3 : b % 9223372036854775808 = 9218868437227405312 := by omega
      rw [read_inf h3, h3]
      show some (if sgnB b then _ else _) = _
      have hm := mag_mono h1
      rw [em]
      have h0 : (0 : Int) ≤ (magB (a % 9223372036854775808) : Int) := Int.natCast_nonneg _
      cases sgnB b <;> cases sgnB a <;> simp only [Bool.false_eq_true, if_false, if_true]
      · rw [Int.compare_eq_lt.2 (by omega)]
      · rw [Int.compare_eq_lt.2 (by omega)]
      · rw [Int.compare_eq_gt.2 (by omega)]
      · rw [Int.compare_eq_gt.2 (by omega)]
  · have h3 : a % 9223372036854775808 = 9218868437227405312 := by omega
    rw [read_inf h3, h3]
    rcases Nat.lt_or_ge (b % 9223372036854775808) 9218868437227405312 with h2 | h2
    · obtain ⟨n, k, eb, en⟩ := read_fin h2
      rw [eb, ← en]
      show some (if sgnB a then _ else _) = _
      have hm := mag_mono h2
      rw [en]
      have h0 : (0 : Int) ≤ (magB (b % 9223372036854775808) : Int) := Int.natCast_nonneg _
      cases sgnB b <;> cases sgnB a <;> simp only [Bool.false_eq_true, if_false, if_true]
      · rw [Int.compare_eq_gt.2 (by omega)]
      · rw [Int.compare_eq_lt.2 (by omega)]
      · rw [Int.compare_eq_gt.2 (by omega)]
      · rw [Int.compare_eq_lt.2 (by omega)]
    · have h4 : b % 9223372036854775808 = 9218868437227405312 := by omega
      rw [read_inf h4, h4]
      show some (compare _ _) = _
      have h0 : 0 < magB 9218868437227405312 := by have := mag_mono (show 0 < 9218868437227405312 by omega); rw [mag_zero] at this; exact this
      cases sgnB b <;> cases sgnB a <;> simp only [Bool.false_eq_true, if_false, if_true]
      · rw [Int.compare_eq_eq.2 rfl]; rfl
      · rw [Int.compare_eq_lt.2 (by omega)]; rfl
      · rw [Int.compare_eq_gt.2 (by omega)]; rfl
      · rw [Int.compare_eq_eq.2 rfl]; rfl
theorem order_nan {a b : Nat} (h : nanB a = true ∨ nanB b = true) : FloatKind.f64.format.order a b = none := by
  show (Ieee.double.read a).order (Ieee.double.read b) = _
  rcases h with h | h
  · obtain ⟨t, e⟩ := read_nan h
    rw [e]; rfl
  · obtain ⟨t, e⟩ := read_nan h
    rw [e]
    cases Ieee.double.read a <;> rfl
theorem order_self {a : Nat} (ha : a < 18446744073709551616) : (FloatKind.f64.format.order a a == some Ordering.eq) = !nanB a := by
  cases hn : nanB a
  · rw [order_eq ha ha hn hn, Int.compare_eq_eq.2 rfl]; rfl
  · rw [order_nan (Or.inl hn)]; rfl
theorem mathIsNaN_any (w : World) (b : Nat) (hb : b < 18446744073709551616) : Calls Try.prog 18 #[.float .f64 b] w fun e w' => e = .returned (.bool (nanB b)) ∧ w' = w := by
  have ho : Hid ((FloatKind.f64.format.order b b == some Ordering.eq) = !nanB b) := order_self hb
  clear hb
  go_enter Try.func18, Try.ntmps18
  go_wp2
  go_ret
  refine ⟨congrArg (fun x => Ending.returned (Value.bool x)) (?_ : (_ != _) = _), rfl⟩
  rw [bne, ho.out, Bool.not_not]
end Go.Proofs.Ytikjgonlngcglaa.Rl

/-
  The model's nearest number is the one that an exact sum is rounded to.
-/
namespace Go.Proofs.Ytikjgonlngcglaa.Rl
open Go.RowKit
set_option maxRecDepth 100000
theorem up_iff (V s : Nat) (hs : 1 ≤ s) : upB V s = decide (2 ^ s < 2 * (V % 2 ^ s) ∨ (2 ^ s = 2 * (V % 2 ^ s) ∧ V / 2 ^ s % 2 = 1)) := by
  obtain ⟨t, rfl⟩ : ∃ t, s = t + 1 := ⟨s - 1, by omega⟩
  unfold upB
  rw [Nat.add_sub_cancel]
  have hp : 0 < 2 ^ t := Nat.two_pow_pos t
  have e1 : V % 2 ^ (t + 1) = V % 2 ^ t + 2 ^ t * (V / 2 ^ t % 2) := by rw [Nat.pow_succ, Nat.mod_mul]
  have e2 : V % 2 ^ t < 2 ^ t := Nat.mod_lt _ hp
  rw [e1, Nat.pow_succ]
  generalize V / (2 ^ t * 2) % 2 = o
  generalize V % 2 ^ t = r at *
  have hb : V / 2 ^ t % 2 = 0 ∨ V / 2 ^ t % 2 = 1 := by omega
  generalize V / 2 ^ t % 2 = b at *
  generalize 2 ^ t = P at *
  rcases hb with rfl | rfl
  · rw [Nat.mul_zero, Nat.add_zero, decide_eq_false (by omega : ¬ (0 = 1)), Bool.false_and]
    rw [decide_eq_false (by omega)]
  · rw [Nat.mul_one, decide_eq_true rfl, Bool.true_and]
    rw [Bool.eq_iff_iff]
    simp only [Bool.or_eq_true, decide_eq_true_eq]
    omega
theorem log2_mul_pow (m p : Nat) (hm : m ≠ 0) : (m * 2 ^ p).log2 = m.log2 + p := by
  have h0 : m * 2 ^ p ≠ 0 := Nat.mul_ne_zero hm (Nat.pos_iff_ne_zero.1 (Nat.two_pow_pos p))
  rw [Nat.log2_eq_iff h0]
  have h1 := (Nat.log2_eq_iff hm).1 rfl
  refine ⟨?_, ?_⟩
  · rw [Nat.pow_add]; exact Nat.mul_le_mul_right _ h1.1
  · rw [show m.log2 + p + 1 = (m.log2 + 1) + p by omega, Nat.pow_add]; exact Nat.mul_lt_mul_of_pos_right h1.2 (Nat.two_pow_pos p)
theorem cut_zero (neg : Bool) (n : Nat) : Ieee.Toward.even.cut neg n 0 = n := by
  unfold Ieee.Toward.cut
  simp [Nat.mod_one]
theorem cut_some (neg : Bool) (n d : Nat) (hd : d ≤ n.log2 + 2) : Ieee.Toward.even.cut neg n d = n / 2 ^ d + (decide (2 ^ d < 2 * (n % 2 ^ d) ∨ (2 ^ d = 2 * (n % 2 ^ d) ∧ n / 2 ^ d % 2 = 1))).toNat := by
  unfold Ieee.Toward.cut
  simp only [Nat.min_eq_left hd, Nat.one_shiftLeft]
  congr 2
  rw [Bool.eq_iff_iff]
  simp
theorem round_zero : roundB 0 = 0 := by unfold roundB; rw [if_pos (by omega)]
theorem nearest_eq (neg : Bool) (m p : Nat) : Ieee.double.nearest neg m (-1074 + (p : Int)) = Ieee.double.word neg (roundB (m * 2 ^ p)) := by
  unfold Ieee.Format.nearest
  by_cases hm : m = 0
  · subst hm; rw [if_pos rfl, Nat.zero_mul, round_zero]
  · rw [if_neg hm, fmt_least, fmt_bin, fmt_inf]
    simp only
    obtain ⟨s, hs⟩ : ∃ s : Nat, s = m.log2 + p - 52 := ⟨_, rfl⟩
    have e1 : max (-1074 + (p : Int) + (m.log2 : Int) - (Ieee.double.fractionBits : Int)) (-1074) = -1074 + (s : Int) := by
      have : (Ieee.double.fractionBits : Int) = 52 := rfl
      rw [this]; omega
    rw [e1, show (-1074 + (p : Int) - (-1074 + (s : Int))).toNat = p - s by omega, show (-1074 + (s : Int) - (-1074 + (p : Int))).toNat = s - p by omega,
      show (-1074 + (s : Int) - -1074).toNat = s by omega]
    congr 1
    have hl := log2_mul_pow m p hm
    have hV0 : m * 2 ^ p ≠ 0 := Nat.mul_ne_zero hm (Nat.pos_iff_ne_zero.1 (Nat.two_pow_pos p))
    have hb := (Nat.log2_eq_iff hV0).1 rfl
    rw [hl] at hb
    by_cases hps : s ≤ p
    · rw [show s - p = 0 by omega, cut_zero, Nat.shiftLeft_eq]
      have e2 : m * 2 ^ p = m * 2 ^ (p - s) * 2 ^ s := by rw [Nat.mul_assoc, ← Nat.pow_add, Nat.sub_add_cancel hps]
      have e3 : m * 2 ^ p / 2 ^ s = m * 2 ^ (p - s) := by rw [e2, Nat.mul_div_cancel _ (Nat.two_pow_pos s)]
      have e4 : m * 2 ^ p % 2 ^ s = 0 := by rw [e2]; exact Nat.mul_mod_left _ _
      unfold roundB
      by_cases hlt : m * 2 ^ p < 9007199254740992
      · have hs0 : s = 0 := by
          have : m.log2 + p < 53 := by
            rcases Nat.lt_or_ge (m.log2 + p) 53 with h | h
            · exact h
            · have := pow_le2 53 _ h; omega
          omega
        rw [if_pos hlt]
        subst hs0
        simp only [Nat.zero_mul, Nat.zero_add, Nat.sub_zero]
        exact Nat.min_eq_left (by omega)
      · have hs1 : 1 ≤ s := by
          rcases Nat.lt_or_ge s 1 with h | h
          · exfalso
            have h2 : m.log2 + p + 1 ≤ 53 := by omega
            have := pow_le2 _ 53 h2
            omega
          · exact h
        have hf : ¬ (2 ^ s < 2 * 0 ∨ (2 ^ s = 2 * 0 ∧ m * 2 ^ (p - s) % 2 = 1)) := by have := Nat.two_pow_pos s; omega
        rw [if_neg hlt, hl, ← hs, up_iff _ _ hs1, e3, e4, decide_eq_false hf, Bool.toNat_false, Nat.add_zero]
    · have hs2 : s - p = m.log2 - 52 := by omega
      have hsp : s = (s - p) + p := by omega
      rw [show p - s = 0 by omega, Nat.shiftLeft_zero, cut_some _ _ _ (by omega)]
      have e3 : m * 2 ^ p / 2 ^ s = m / 2 ^ (s - p) := by rw [hsp, Nat.pow_add, Nat.mul_div_mul_right _ _ (Nat.two_pow_pos p), Nat.add_sub_cancel]
      have e4 : m * 2 ^ p % 2 ^ s = m % 2 ^ (s - p) * 2 ^ p := by rw [hsp, Nat.pow_add, Nat.mul_mod_mul_right, Nat.add_sub_cancel]
      have hs1 : 1 ≤ s := by omega
      have hlt : ¬ m * 2 ^ p < 9007199254740992 := by
        have h2 : 53 ≤ m.log2 + p := by omega
        have := pow_le2 53 _ h2
        omega
      unfold roundB
      rw [if_neg hlt, hl, ← hs, up_iff _ _ hs1, e3, e4]
      have e5 : 2 ^ s = 2 ^ (s - p) * 2 ^ p := by rw [← Nat.pow_add]; congr 1
      rw [e5, show 2 * (m % 2 ^ (s - p) * 2 ^ p) = (2 * (m % 2 ^ (s - p))) * 2 ^ p by rw [Nat.mul_assoc]]
      have h6 : ∀ a b : Nat, a * 2 ^ p < b * 2 ^ p ↔ a < b := fun a b => Nat.mul_lt_mul_right (Nat.two_pow_pos p)
      have h7 : ∀ a b : Nat, a * 2 ^ p = b * 2 ^ p ↔ a = b := fun a b => ⟨fun h => Nat.eq_of_mul_eq_mul_right (Nat.two_pow_pos p) h, fun h => by rw [h]⟩
      simp only [h6, h7]
      rw [Nat.add_assoc]
end Go.Proofs.Ytikjgonlngcglaa.Rl

/-
  What exact sums come to: of one number, of two, of whole numbers, of a list turned round, of a list with a number and its opposite.
-/
namespace Go.Proofs.Ytikjgonlngcglaa.Rl
open Go.RowKit
set_option maxRecDepth 100000
theorem round_exact (D h : Nat) (hD : D < 9007199254740992) (hh : h ≤ 2045) : magB (roundB (D * 2 ^ h)) = D * 2 ^ h := by
  unfold roundB
  by_cases hlt : D * 2 ^ h < 9007199254740992
  · rw [if_pos hlt]
    unfold magB
    by_cases h1 : D * 2 ^ h < 4503599627370496
    · rw [if_pos h1]
    · rw [if_neg h1, show D * 2 ^ h / 4503599627370496 - 1 = 0 by omega, Nat.pow_zero, Nat.mul_one]; omega
  · rw [if_neg hlt]
    have hD0 : D ≠ 0 := by rintro rfl; rw [Nat.zero_mul] at hlt; omega
    have hl := log2_mul_pow D h hD0
    have hV0 : D * 2 ^ h ≠ 0 := Nat.mul_ne_zero hD0 (Nat.pos_iff_ne_zero.1 (Nat.two_pow_pos h))
    have hb := (Nat.log2_eq_iff hV0).1 rfl
    have hbD := (Nat.log2_eq_iff hD0).1 rfl
    rw [hl] at hb
    have hd52 : D.log2 ≤ 52 := by
      rcases Nat.lt_or_ge 52 D.log2 with g | g
      · have := pow_le2 53 _ g; omega
      · exact g
    have h53 : 53 ≤ D.log2 + h := by
      rcases Nat.lt_or_ge (D.log2 + h) 53 with g | g
      · have := pow_le2 (D.log2 + h + 1) 53 (by omega); omega
      · exact g
    obtain ⟨s, hs⟩ : ∃ s, s = D.log2 + h - 52 := ⟨_, rfl⟩
    rw [hl, ← hs]
    have hsh : s ≤ h := by omega
    have e2 : D * 2 ^ h = D * 2 ^ (h - s) * 2 ^ s := by rw [Nat.mul_assoc, ← Nat.pow_add, Nat.sub_add_cancel hsh]
    have e3 : D * 2 ^ h / 2 ^ s = D * 2 ^ (h - s) := by rw [e2, Nat.mul_div_cancel _ (Nat.two_pow_pos s)]
    have e4 : D * 2 ^ h % 2 ^ s = 0 := by rw [e2]; exact Nat.mul_mod_left _ _
    have hf : ¬ (2 ^ s < 2 * 0 ∨ (2 ^ s = 2 * 0 ∧ D * 2 ^ (h - s) % 2 = 1)) := by have := Nat.two_pow_pos s; omega
    rw [up_iff _ _ (by omega), e3, e4, decide_eq_false hf, Bool.toNat_false, Nat.add_zero]
    have hq1 : 4503599627370496 ≤ D * 2 ^ (h - s) := by
      have g1 : 2 ^ (D.log2 + (h - s)) = 2 ^ 52 := by congr 1; omega
      have g2 : 2 ^ D.log2 * 2 ^ (h - s) ≤ D * 2 ^ (h - s) := Nat.mul_le_mul_right _ hbD.1
      rw [← Nat.pow_add, g1] at g2
      omega
    have hq2 : D * 2 ^ (h - s) < 9007199254740992 := by
      have g1 : 2 ^ (D.log2 + 1 + (h - s)) = 2 ^ 53 := by congr 1; omega
      have g2 : D * 2 ^ (h - s) < 2 ^ (D.log2 + 1) * 2 ^ (h - s) := Nat.mul_lt_mul_of_pos_right hbD.2 (Nat.two_pow_pos _)
      rw [← Nat.pow_add, g1] at g2
      omega
    rw [e2]
    generalize D * 2 ^ (h - s) = q at *
    rw [Nat.min_eq_left (by omega)]
    unfold magB
    rw [if_neg (by omega), show (s * 4503599627370496 + q) / 4503599627370496 - 1 = s by omega, show (s * 4503599627370496 + q) % 4503599627370496 + 4503599627370496 = q by omega]
theorem mag_form {s : Nat} (h : s < 9218868437227405312) : ∃ D k, magB s = D * 2 ^ k ∧ D < 9007199254740992 ∧ k ≤ 2045 := by
  unfold magB
  by_cases h1 : s < 4503599627370496
  · rw [if_pos h1]; exact ⟨s, 0, by simp, by omega, by omega⟩
  · rw [if_neg h1]; exact ⟨_, _, rfl, by omega, by omega⟩
theorem round_mag {s : Nat} (h : s < 9218868437227405312) : roundB (magB s) = s := by
  obtain ⟨D, k, e, h1, h2⟩ := mag_form h
  apply mag_inj
  rw [e]
  exact round_exact D k h1 h2
/-- A sum by its sign and its size. -/
def signB (z : Int) : Nat := if z < 0 then 9223372036854775808 + roundB z.natAbs else roundB z.natAbs
end Go.Proofs.Ytikjgonlngcglaa.Rl

/-
  Exact sums of one number and of two, and Go's own.
-/
namespace Go.Proofs.Ytikjgonlngcglaa.Rl
open Go.RowKit
set_option maxRecDepth 100000
theorem word_eq (neg : Bool) (r : Nat) : Ieee.double.word neg r = if neg then 9223372036854775808 + r else r := by unfold Ieee.Format.word; rw [fmt_sign]
theorem sg_zero_iff {b : Nat} (hb : b < 18446744073709551616) (hs : sgnB b = true) (h0 : sg b = 0) : b = 9223372036854775808 := by
  rw [sg_eq hb, hs, if_pos rfl] at h0
  have : magB (b % 9223372036854775808) = 0 := by omega
  have h1 : b % 9223372036854775808 = 0 := by
    rcases Nat.eq_zero_or_pos (b % 9223372036854775808) with h | h
    · exact h
    · have := mag_mono h; rw [mag_zero] at this; omega
  unfold sgnB at hs
  simp at hs
  omega
/-- Two finite numbers: Go's sum is the exact one, rounded once. -/
theorem add_fin {a b : Nat} (ha : a < 18446744073709551616) (hb : b < 18446744073709551616) (fa : a % 9223372036854775808 < 9218868437227405312) (fb : b % 9223372036854775808 < 9218868437227405312) :
    Ieee.double.add a b = some (if a = 9223372036854775808 ∧ b = 9223372036854775808 then 9223372036854775808 else signB (sg a + sg b)) := by
  unfold Ieee.Format.add
  obtain ⟨m, h, ea, em⟩ := read_fin fa
  obtain ⟨n, k, eb, en⟩ := read_fin fb
  rw [ea, eb]
  have hd : Ieee.Datum.sum (.number (sgnB a) m (-1074 + (h : Int))) (.number (sgnB b) n (-1074 + (k : Int))) =
      some (.number (if Ieee.signed (sgnB a) m (h - min h k) + Ieee.signed (sgnB b) n (k - min h k) = 0 then sgnB a && sgnB b else decide (Ieee.signed (sgnB a) m (h - min h k) + Ieee.signed (sgnB b) n (k - min h k) < 0))
        (Ieee.signed (sgnB a) m (h - min h k) + Ieee.signed (sgnB b) n (k - min h k)).natAbs (-1074 + ((min h k : Nat) : Int))) := by
    show some _ = some _
    rw [show min (-1074 + (h : Int)) (-1074 + (k : Int)) = -1074 + ((min h k : Nat) : Int) by omega]
    rw [show ((-1074 + (h : Int)) - (-1074 + ((min h k : Nat) : Int))).toNat = h - min h k by omega,
      show ((-1074 + (k : Int)) - (-1074 + ((min h k : Nat) : Int))).toNat = k - min h k by omega]
  rw [hd]
  have e1 := signed_mul (sgnB a) m h (min h k) (Nat.min_le_left _ _)
  have e2 := signed_mul (sgnB b) n k (min h k) (Nat.min_le_right _ _)
  rw [em, ← sg_eq ha] at e1
  rw [en, ← sg_eq hb] at e2
  obtain ⟨T, hT⟩ : ∃ T, T = Ieee.signed (sgnB a) m (h - min h k) + Ieee.signed (sgnB b) n (k - min h k) := ⟨_, rfl⟩
  rw [← hT]
  have hP : (0 : Int) < ((2 ^ min h k : Nat) : Int) := by have := Nat.two_pow_pos (min h k); omega
  have e3 : T * ((2 ^ min h k : Nat) : Int) = sg a + sg b := by rw [hT, Int.add_mul, e1, e2]
  show some (Ieee.double.nearest _ _ _) = _
  rw [nearest_eq, word_eq]
  have e4 : T.natAbs * 2 ^ min h k = (sg a + sg b).natAbs := by rw [← e3, Int.natAbs_mul, Int.natAbs_natCast]
  rw [e4]
  generalize ((2 ^ min h k : Nat) : Int) = P at *
  congr 1
  by_cases hz : T = 0
  · subst hz
    rw [Int.zero_mul] at e3
    rw [if_pos rfl, ← e3, Int.natAbs_zero, round_zero]
    by_cases hboth : a = 9223372036854775808 ∧ b = 9223372036854775808
    · rw [if_pos hboth, hboth.1, hboth.2]; decide +kernel
    · rw [if_neg hboth]
      have hne : (sgnB a && sgnB b) = false := by
        cases ha2 : sgnB a
        · rfl
        · cases hb2 : sgnB b
          · rfl
          · exfalso
            have g1 : sg a ≤ 0 := by rw [sg_eq ha, ha2, if_pos rfl]; omega
            have g2 : sg b ≤ 0 := by rw [sg_eq hb, hb2, if_pos rfl]; omega
            exact hboth ⟨sg_zero_iff ha ha2 (by omega), sg_zero_iff hb hb2 (by omega)⟩
      rw [hne, if_neg (by simp)]
      unfold signB
      rw [if_neg (by omega), Int.natAbs_zero, round_zero]
  · rw [if_neg hz]
    have hboth : ¬ (a = 9223372036854775808 ∧ b = 9223372036854775808) := by
      rintro ⟨rfl, rfl⟩
      have : sg 9223372036854775808 = 0 := by decide +kernel
      rw [this] at e3
      rcases Int.mul_eq_zero.1 (e3.trans (by omega)) with g | g <;> omega
    rw [if_neg hboth]
    unfold signB
    by_cases hneg : T < 0
    · have : sg a + sg b < 0 := by rw [← e3]; exact Int.mul_neg_of_neg_of_pos hneg hP
      rw [decide_eq_true hneg, if_pos rfl, if_pos this]
    · have : ¬ sg a + sg b < 0 := by
        have := Int.mul_nonneg (show 0 ≤ T by omega) (show 0 ≤ P by omega)
        omega
      rw [decide_eq_false hneg, if_neg (by simp), if_neg this]
end Go.Proofs.Ytikjgonlngcglaa.Rl

/-
  The numbers of their bits, as a list of its own.
-/
namespace Go.Proofs.Ytikjgonlngcglaa.Rl
open Go.RowKit
set_option maxRecDepth 100000
end Go.Proofs.Ytikjgonlngcglaa.Rl

/-
  Floating numbers by their bits: the order, rounding.
-/
namespace Go.Proofs.Ytikjgonlngcglaa.Gg
open Go.RowKit Rl
set_option linter.unusedVariables false
theorem nn {a : Nat} (h : a ≤ 9218868437227405312) : nanB a = false := by
  unfold nanB; rw [Nat.mod_eq_of_lt (by omega)]; simp; omega
theorem nneg {a : Nat} (h : 9223372036854775808 ≤ a) (h2 : a ≤ 18442240474082181120) : nanB a = false := by
  unfold nanB; simp; omega
theorem sg_pos {a : Nat} (h : a ≤ 9218868437227405312) : sg a = (magB a : Int) := by unfold sg; rw [if_pos (by omega)]
theorem cmp_mag {a b : Nat} : compare ((magB a : Int)) (magB b : Int) = compare a b := by
  rcases Nat.lt_trichotomy a b with h | h | h
  · have := mag_mono h
    rw [Int.compare_eq_lt.2 (show (magB a : Int) < magB b by omega), Nat.compare_eq_lt.2 h]
  · subst h; simp
  · have := mag_mono h
    rw [Int.compare_eq_gt.2 (show (magB b : Int) < magB a by omega), Nat.compare_eq_gt.2 h]
/-- Two numbers from 0 on, as Go compares them. -/
theorem ord_pos {a b : Nat} (ha : a ≤ 9218868437227405312) (hb : b ≤ 9218868437227405312) : FloatKind.f64.format.order a b = some (compare a b) := by
  rw [order_eq (by omega) (by omega) (nn ha) (nn hb), sg_pos ha, sg_pos hb, cmp_mag]
theorem ord_mz {b : Nat} (hb : b ≤ 9218868437227405312) : FloatKind.f64.format.order 9223372036854775808 b = some (compare 0 b) := by
  rw [order_eq (by omega) (by omega) (nneg (by omega) (by omega)) (nn hb), sg_pos hb]
  have : sg 9223372036854775808 = (magB 0 : Int) := by unfold sg; rw [if_neg (by omega)]; simp [mag_zero]
  rw [this, cmp_mag]
theorem ord_neg {a b : Nat} (ha : 9223372036854775808 < a) (ha2 : a ≤ 18442240474082181120) (hb : b ≤ 9218868437227405312) : FloatKind.f64.format.order a b = some .lt := by
  rw [order_eq (by omega) (by omega) (nneg (by omega) ha2) (nn hb), sg_pos hb]
  have h1 : sg a = -(magB (a - 9223372036854775808) : Int) := by unfold sg; rw [if_neg (by omega)]
  have h2 : magB 0 < magB (a - 9223372036854775808) := mag_mono (by omega)
  rw [mag_zero] at h2
  rw [h1, Int.compare_eq_lt.2 (by omega)]
theorem fcase {b : Nat} (hb : b < 18446744073709551616) : nanB b = true ∨ b ≤ 9218868437227405312 ∨ b = 9223372036854775808 ∨ (9223372036854775808 < b ∧ b ≤ 18442240474082181120) := by
  by_cases h : nanB b = true
  · exact .inl h
  · right
    unfold nanB at h
    simp at h
    omega
theorem nan_big {b : Nat} (h : nanB b = true) : ¬ b ≤ 9218868437227405312 ∧ b ≠ 9223372036854775808 := by
  refine ⟨fun c => ?_, fun c => ?_⟩
  · rw [nn c] at h; cases h
  · rw [nneg (by omega) (by omega)] at h; cases h
theorem cmp0 {b : Nat} (h : 0 < b) : compare b 0 = Ordering.gt := Nat.compare_eq_gt.2 h
/-- Halves to even, among numbers of one size. -/
theorem up_mono {V V' e : Nat} (h : V ≤ V') (he : 1 ≤ e) : V / 2 ^ e + (upB V e).toNat ≤ V' / 2 ^ e + (upB V' e).toNat := by
  have hq : V / 2 ^ e ≤ V' / 2 ^ e := Nat.div_le_div_right h
  have hu : (upB V e).toNat ≤ 1 := by cases upB V e <;> simp
  rcases Nat.lt_or_eq_of_le hq with q | q
  · omega
  · obtain ⟨H, hH⟩ : ∃ H, 2 ^ (e - 1) = H := ⟨_, rfl⟩
    have hP : 2 ^ e = 2 * H := by rw [← hH, ← Nat.pow_succ']; congr 1; omega
    have hH0 : 0 < H := by rw [← hH]; exact Nat.two_pow_pos _
    cases hb : upB V e
    · simp; omega
    · have : upB V' e = true := by
        unfold upB at hb ⊢
        rw [hH, hP] at hb ⊢
        rw [hP] at q
        simp only [Bool.and_eq_true, Bool.or_eq_true, decide_eq_true_eq] at hb ⊢
        obtain ⟨h1, h2⟩ := hb
        have d1 := Nat.div_add_mod V (2 * H)
        have d2 := Nat.div_add_mod V' (2 * H)
        have m1 := Nat.mod_lt V (show 0 < 2 * H by omega)
        have m2 := Nat.mod_lt V' (show 0 < 2 * H by omega)
        have g : ∀ X : Nat, X / H % 2 = (X % (2 * H)) / H ∧ X % H = X % (2 * H) % H := fun X => by
          refine ⟨?_, ?_⟩
          · rw [Nat.mul_comm 2 H, Nat.mod_mul_right_div_self]
          · rw [Nat.mod_mod_of_dvd _ (Nat.dvd_mul_left H 2)]
        obtain ⟨g1, g2⟩ := g V
        obtain ⟨g3, g4⟩ := g V'
        rw [g1] at h1
        rw [g2] at h2
        rw [g3, g4, ← q]
        have hr : V % (2 * H) ≤ V' % (2 * H) := by
          rw [← q] at d2
          omega
        obtain ⟨r, hr1⟩ : ∃ r, V % (2 * H) = r := ⟨_, rfl⟩
        obtain ⟨r', hr2⟩ : ∃ r', V' % (2 * H) = r' := ⟨_, rfl⟩
        rw [hr1] at h1 h2 hr m1
        rw [hr2] at hr m2 ⊢
        have e1 : H ≤ r := by
          rcases Nat.lt_or_ge r H with c | c
          · rw [Nat.div_eq_of_lt c] at h1; omega
          · exact c
        have e2 : r' / H = 1 := by
          rw [Nat.div_eq_iff hH0]
          omega
        refine ⟨e2, ?_⟩
        rcases h2 with h2 | h2
        · exact .inl h2
        · right
          have s1 : r % H = r - H := by rw [Nat.mod_eq_sub_mod e1, Nat.mod_eq_of_lt (by omega)]
          have s2 : r' % H = r' - H := by rw [Nat.mod_eq_sub_mod (by omega), Nat.mod_eq_of_lt (by omega)]
          omega
      rw [this]
      simp
      omega
theorem fin1 {j j' qa qb ua ub : Nat} (hj : j < j') (hq : 4503599627370496 ≤ qb) (hv : qa < 9007199254740992) (hu : ua ≤ 1) : j * 4503599627370496 + qa + ua ≤ j' * 4503599627370496 + qb + ub := by omega
theorem fin2 {A qa qb ua ub : Nat} (h : qa + ua ≤ qb + ub) : A + qa + ua ≤ A + qb + ub := by omega
theorem fin3 {j V qb ub : Nat} (hj : 1 ≤ j) (hq : 4503599627370496 ≤ qb) (hv : V < 9007199254740992) : V ≤ j * 4503599627370496 + qb + ub := by omega
theorem round_mono {V V' : Nat} (h : V ≤ V') : roundB V ≤ roundB V' := by
  unfold roundB
  by_cases h1 : V < 9007199254740992
  · rw [if_pos h1]
    by_cases h2 : V' < 9007199254740992
    · rw [if_pos h2]; exact h
    · rw [if_neg h2]
      have hl : 53 ≤ V'.log2 := (Nat.le_log2 (by omega)).2 (by omega)
      have hd : 2 ^ (V'.log2 - 52) * 4503599627370496 ≤ V' := by
        rw [show (4503599627370496 : Nat) = 2 ^ 52 by rfl, ← Nat.pow_add, show V'.log2 - 52 + 52 = V'.log2 by omega]
        exact Nat.log2_self_le (by omega)
      have hq : 4503599627370496 ≤ V' / 2 ^ (V'.log2 - 52) := (Nat.le_div_iff_mul_le (Nat.two_pow_pos _)).2 (by rw [Nat.mul_comm]; exact hd)
      exact Nat.le_min.2 ⟨fin3 (show 1 ≤ V'.log2 - 52 by omega) hq h1, by omega⟩
  · rw [if_neg h1, if_neg (by omega)]
    refine Nat.le_min.2 ⟨Nat.le_trans (Nat.min_le_left _ _) ?_, Nat.min_le_right _ _⟩
    have hl : 53 ≤ V.log2 := (Nat.le_log2 (by omega)).2 (by omega)
    have hll : V.log2 ≤ V'.log2 := by
      rw [Nat.le_log2 (by omega)]
      exact Nat.le_trans (Nat.log2_self_le (by omega)) h
    rcases Nat.lt_or_eq_of_le hll with q | q
    · have hd : 2 ^ (V'.log2 - 52) * 4503599627370496 ≤ V' := by
        rw [show (4503599627370496 : Nat) = 2 ^ 52 by rfl, ← Nat.pow_add, show V'.log2 - 52 + 52 = V'.log2 by omega]
        exact Nat.log2_self_le (by omega)
      have hq : 4503599627370496 ≤ V' / 2 ^ (V'.log2 - 52) := (Nat.le_div_iff_mul_le (Nat.two_pow_pos _)).2 (by rw [Nat.mul_comm]; exact hd)
      have hv : V / 2 ^ (V.log2 - 52) < 9007199254740992 := by
        rw [Nat.div_lt_iff_lt_mul (Nat.two_pow_pos _), show (9007199254740992 : Nat) = 2 ^ 53 by rfl, ← Nat.pow_add, show 53 + (V.log2 - 52) = V.log2 + 1 by omega]
        exact Nat.lt_log2_self
      have hu : (upB V (V.log2 - 52)).toNat ≤ 1 := by cases upB V (V.log2 - 52) <;> simp
      exact fin1 (by omega) hq hv hu
    · rw [← q]
      have hm := up_mono h (show 1 ≤ V.log2 - 52 by omega)
      exact fin2 hm
end Go.Proofs.Ytikjgonlngcglaa.Gg

/-
  Iterators that keep state of their own in cells, and hand over what lies in memory: a contract by two sets of blocks, and the law for a range over one.
-/
namespace Go.Proofs.Ytikjgonlngcglaa
open Go.RowKit
/-- W' is W but for the blocks of X. -/
structure But (X : Nat → Prop) (W W' : World) : Prop where
  os : W'.os = W.os
  tape : W'.tape = W.tape
  output : W'.output = W.output
  size : W.heap.size ≤ W'.heap.size
  block : ∀ k, k < W.heap.size → ¬ X k → W'.heap[k]? = W.heap[k]?
theorem But.refl (X : Nat → Prop) (W : World) : But X W W := ⟨rfl, rfl, rfl, Nat.le_refl _, fun _ _ _ => rfl⟩
theorem But.trans {X : Nat → Prop} {A B C : World} (h : But X A B) (k : But X B C) : But X A C :=
  ⟨k.os.trans h.os, k.tape.trans h.tape, k.output.trans h.output, Nat.le_trans h.size k.size, fun i hi hx => (k.block i (Nat.lt_of_lt_of_le hi h.size) hx).trans (h.block i hi hx)⟩
theorem But.mono {X Y : Nat → Prop} {A B : World} (h : But X A B) (hs : ∀ k, k < A.heap.size → X k → Y k) : But Y A B :=
  ⟨h.os, h.tape, h.output, h.size, fun k hk hy => h.block k hk (fun hx => hy (hs k hk hx))⟩
theorem But.below {X : Nat → Prop} {A B : World} {n : Nat} (h : But X A B) (hn : n ≤ A.heap.size) (hX : ∀ k, X k → n ≤ k) : Below n A B :=
  ⟨h.os, h.tape, h.output, h.size, fun k hk => h.block k (Nat.lt_of_lt_of_le hk hn) (fun hx => Nat.lt_irrefl _ (Nat.lt_of_lt_of_le hk (hX k hx)))⟩
theorem But.of_below {A B : World} (h : Below A.heap.size A B) (X : Nat → Prop) : But X A B := ⟨h.os, h.tape, h.output, h.size, fun k hk _ => h.block k hk⟩
theorem But.of_grownBy {A B : World} {row : Option Nat} (h : A.grownBy B row) {X : Nat → Prop} (hX : ∀ k, row = some k → X k) : But X A B :=
  ⟨h.os, h.tape, h.output, h.size, fun k hk hx => h.block k hk (fun e => hx (hX k e.symm))⟩
theorem But.alloc (W : World) (o : Obj) (X : Nat → Prop) : But X W (W.alloc o) := But.of_below ((Below.refl _ W).alloc (Nat.le_refl _) o) X
/-- Behind a step that turns the blocks of X alone, what lay in a block outside lies there still. -/
theorem But.at {X : Nat → Prop} {A B : World} (h : But X A B) {k : Nat} {o : Obj} (hk : A.heap[k]? = some o) (hx : ¬ X k) : B.heap[k]? = some o :=
  (h.block k (Array.getElem?_eq_some_iff.1 hk).1 hx).trans hk
end Go.Proofs.Ytikjgonlngcglaa

/-
  Go's + - * / of floating numbers by their bits: what is answered, or a NaN that is drawn.
-/
namespace Go.Proofs.Ytikjgonlngcglaa.Gg
open Go.RowKit Rl
set_option linter.unusedVariables false
theorem hide {p : Prop} (h : p) : Hid p := h
/-- What an operation answers, its NaN the canonical one. -/
def cn : Option Nat → Nat
  | none => 9221120237041090561
  | some r => canonB r
/-- r is what the operation answers, or a NaN where it answers one. -/
def Is (o : Option Nat) (r : Nat) : Prop := r < 18446744073709551616 ∧ canonB r = cn o
theorem canon_nan {r : Nat} (h : nanB r = true) : canonB r = 9221120237041090561 := by unfold canonB; rw [if_pos h]
theorem canon_num {r : Nat} (h : nanB r = false) : canonB r = r := by unfold canonB; rw [if_neg (by simp [h])]
theorem nan_c : nanB 9221120237041090561 = true := by decide
theorem canon_idem (r : Nat) : canonB (canonB r) = canonB r := by
  cases h : nanB r
  · rw [canon_num h, canon_num h]
  · rw [canon_nan h, canon_nan nan_c]
theorem canon_eq {r s : Nat} (h : canonB r = canonB s) : (nanB r = true ∧ nanB s = true) ∨ r = s := by
  cases h1 : nanB r <;> cases h2 : nanB s
  · rw [canon_num h1, canon_num h2] at h; exact .inr h
  · rw [canon_num h1, canon_nan h2] at h; rw [h, nan_c] at h1; cases h1
  · rw [canon_nan h1, canon_num h2] at h; rw [← h, nan_c] at h2; cases h2
  · exact .inl ⟨rfl, rfl⟩
theorem cn_canon (o : Option Nat) : canonB (cn o) = cn o := by
  cases o with
  | none => decide
  | some r => exact canon_idem r
theorem Is.lt {o : Option Nat} {r : Nat} (h : Is o r) : r < 18446744073709551616 := h.1
def addB (x y : Nat) : Nat := cn (Ieee.double.add x y)
def subB (x y : Nat) : Nat := cn (Ieee.double.sub x y)
def mulB (x y : Nat) : Nat := cn (Ieee.double.mul x y)
theorem add_nan {x y : Nat} (h : nanB x = true ∨ nanB y = true) : Ieee.double.add x y = none := by
  unfold Ieee.Format.add
  rcases h with h | h
  · obtain ⟨t, e⟩ := read_nan h; rw [e]; rfl
  · obtain ⟨t, e⟩ := read_nan h; rw [e]; cases Ieee.double.read x <;> rfl
theorem mul_nan {x y : Nat} (h : nanB x = true ∨ nanB y = true) : Ieee.double.mul x y = none := by
  unfold Ieee.Format.mul
  rcases h with h | h
  · obtain ⟨t, e⟩ := read_nan h; rw [e]; rfl
  · obtain ⟨t, e⟩ := read_nan h; rw [e]; cases Ieee.double.read x <;> rfl
theorem add_same {x x' y y' : Nat} (h : canonB x = canonB x') (g : canonB y = canonB y') : Ieee.double.add x y = Ieee.double.add x' y' := by
  rcases canon_eq h with h | rfl
  · rw [add_nan (.inl h.1), add_nan (.inl h.2)]
  · rcases canon_eq g with g | rfl
    · rw [add_nan (.inr g.1), add_nan (.inr g.2)]
    · rfl
theorem mul_same {x x' y y' : Nat} (h : canonB x = canonB x') (g : canonB y = canonB y') : Ieee.double.mul x y = Ieee.double.mul x' y' := by
  rcases canon_eq h with h | rfl
  · rw [mul_nan (.inl h.1), mul_nan (.inl h.2)]
  · rcases canon_eq g with g | rfl
    · rw [mul_nan (.inr g.1), mul_nan (.inr g.2)]
    · rfl
theorem Is.c {o : Option Nat} {r : Nat} (h : Is o r) : canonB r = canonB (cn o) := by rw [h.2, cn_canon]
/-- Where an operand is what another operation answered. -/
theorem Is.add {x y r : Nat} {o : Option Nat} (hr : Is (Ieee.double.add x r) y) (h : Is o r) : canonB y = addB x (cn o) := by rw [hr.2, addB, add_same rfl h.c]
theorem Is.mul {x y r : Nat} {o : Option Nat} (hr : Is (Ieee.double.mul x r) y) (h : Is o r) : Is (Ieee.double.mul x (cn o)) y := ⟨hr.1, by rw [hr.2, mul_same rfl h.c]⟩
end Go.Proofs.Ytikjgonlngcglaa.Gg

/-
  Products with whole numbers, rounding up, whole numbers out of floats: by bits.
-/
namespace Go.Proofs.Ytikjgonlngcglaa.Gg
open Go.RowKit Rl
set_option linter.unusedVariables false
theorem cut_scale (neg : Bool) (m t d : Nat) (hm : m ≠ 0) : Ieee.Toward.even.cut neg (m * 2 ^ t) (d + t) = Ieee.Toward.even.cut neg m d := by
  unfold Ieee.Toward.cut
  simp only [log2_mul_pow m t hm, Nat.one_shiftLeft]
  rw [show min (d + t) (m.log2 + t + 2) = min d (m.log2 + 2) + t by omega, Nat.pow_add]
  generalize 2 ^ min d (m.log2 + 2) = g
  obtain ⟨T, hT⟩ : ∃ T, 2 ^ t = T := ⟨_, rfl⟩
  have hT0 : 0 < T := by rw [← hT]; exact Nat.two_pow_pos _
  rw [hT, Nat.mul_div_mul_right _ _ hT0, Nat.mul_mod_mul_right]
  congr 2
  have e1 : (g * T < 2 * (m % g * T)) ↔ (g < 2 * (m % g)) := by
    rw [← Nat.mul_assoc]
    exact Nat.mul_lt_mul_right hT0
  have e2 : (g * T = 2 * (m % g * T)) ↔ (g = 2 * (m % g)) := by
    rw [← Nat.mul_assoc]
    exact Nat.mul_left_inj (Nat.pos_iff_ne_zero.1 hT0)
  rw [Bool.eq_iff_iff]
  simp only [Bool.or_eq_true, Bool.and_eq_true, decide_eq_true_eq, beq_iff_eq, e1, e2]
theorem cut_whole (neg : Bool) (n t e : Nat) (hn : n ≠ 0) (he : e ≤ t) : Ieee.Toward.even.cut neg (n * 2 ^ t) e = n * 2 ^ (t - e) := by
  rw [cut_some neg _ _ (by rw [log2_mul_pow n t hn]; omega)]
  have e1 : n * 2 ^ t = n * 2 ^ (t - e) * 2 ^ e := by rw [Nat.mul_assoc, ← Nat.pow_add, Nat.sub_add_cancel he]
  have hp := Nat.two_pow_pos e
  rw [e1, Nat.mul_div_cancel _ hp, Nat.mul_mod_left, decide_eq_false (by omega)]
  rfl
/-- A number may be said in finer units. -/
theorem nearest_scale (neg : Bool) (m t : Nat) (p : Int) : Ieee.double.nearest neg (m * 2 ^ t) p = Ieee.double.nearest neg m (p + (t : Int)) := by
  unfold Ieee.Format.nearest
  by_cases hm : m = 0
  · subst hm; simp
  · have h0 : m * 2 ^ t ≠ 0 := Nat.mul_ne_zero hm (Nat.pos_iff_ne_zero.1 (Nat.two_pow_pos t))
    rw [if_neg h0, if_neg hm, log2_mul_pow m t hm]
    simp only
    have e1 : p + ((m.log2 + t : Nat) : Int) - (Ieee.double.fractionBits : Int) = p + (t : Int) + (m.log2 : Int) - (Ieee.double.fractionBits : Int) := by omega
    rw [e1]
    generalize max (p + (t : Int) + (m.log2 : Int) - (Ieee.double.fractionBits : Int)) Ieee.double.leastPlace = last
    have e2 : Ieee.Toward.even.cut neg ((m * 2 ^ t) <<< (p - last).toNat) (last - p).toNat = Ieee.Toward.even.cut neg (m <<< (p + (t : Int) - last).toNat) (last - (p + (t : Int))).toNat := by
      rw [Nat.shiftLeft_eq, Nat.shiftLeft_eq]
      by_cases h1 : last ≤ p
      · rw [show (last - p).toNat = 0 by omega, show (last - (p + (t : Int))).toNat = 0 by omega, cut_zero, cut_zero, Nat.mul_assoc, ← Nat.pow_add]
        congr 2
        omega
      · rw [show (p - last).toNat = 0 by omega, Nat.pow_zero, Nat.mul_one]
        by_cases h2 : p + (t : Int) ≤ last
        · obtain ⟨d, hd⟩ : ∃ d : Nat, last = p + (t : Int) + (d : Int) := ⟨(last - (p + t)).toNat, by omega⟩
          rw [show (last - p).toNat = d + t by omega, show (p + (t : Int) - last).toNat = 0 by omega, show (last - (p + (t : Int))).toNat = d by omega, Nat.pow_zero, Nat.mul_one, cut_scale neg m t d hm]
        · rw [show (last - (p + (t : Int))).toNat = 0 by omega, cut_zero, cut_whole neg m t _ hm (by omega)]
          congr 2
          omega
    rw [e2]
theorem nf_eq (n : Nat) : FloatKind.f64.nearest (n : Int) = roundB (n * 2 ^ 1074) := by
  unfold FloatKind.nearest FloatKind.encode
  show Ieee.double.nearest (decide ((n : Int) < 0)) (n : Int).natAbs 0 = _
  rw [decide_eq_false (by omega), Int.natAbs_natCast]
  have := nearest_eq false n 1074
  rw [show (-1074 + ((1074 : Nat) : Int)) = 0 by omega] at this
  rw [this, word_eq, if_neg (by decide)]
theorem nf_mag {n : Nat} (hn : n < 9007199254740992) : magB (FloatKind.f64.nearest (n : Int)) = n * 2 ^ 1074 := by rw [nf_eq, round_exact n 1074 hn (by omega)]
theorem mag_le {s t : Nat} (h : s ≤ t) : magB s ≤ magB t := by
  rcases Nat.lt_or_eq_of_le h with q | q
  · exact Nat.le_of_lt (mag_mono q)
  · rw [q]; exact Nat.le_refl _
theorem mag_2_63 : magB 4890909195324358656 = 2 ^ 63 * 2 ^ 1074 := by decide +kernel
/-- Whole numbers as floats are below 2^63. -/
theorem whole_lt {c : Nat} (hc : c < 9007199254740992) : roundB (c * 2 ^ 1074) < 4890909195324358656 := by
  rcases Nat.lt_or_ge (roundB (c * 2 ^ 1074)) 4890909195324358656 with h | h
  · exact h
  · exfalso
    have h2 := mag_le h
    rw [round_exact c 1074 hc (by omega), mag_2_63] at h2
    have := Nat.le_of_mul_le_mul_right h2 (Nat.two_pow_pos 1074)
    omega
theorem round_lt_inf {n : Nat} (hn : n < 9007199254740992) : roundB (n * 2 ^ 1074) < 9218868437227405312 := by have := whole_lt hn; omega
/-- Rounded up, rounded down: in whole numbers. -/
theorem cut_any (way : Ieee.Toward) (hw : way = .up ∨ way = .zero) (s : Bool) (m d : Nat) : way.cut s m d = m / 2 ^ d + (match way with | .up => !s && m % 2 ^ d != 0 | _ => false).toNat := by
  unfold Ieee.Toward.cut
  simp only [Nat.one_shiftLeft]
  by_cases hd : d ≤ m.log2 + 2
  · rw [Nat.min_eq_left hd]
    rcases hw with rfl | rfl <;> rfl
  · rw [Nat.min_eq_right (by omega)]
    have h1 : m < 2 ^ (m.log2 + 2) := Nat.lt_of_lt_of_le Nat.lt_log2_self (Nat.pow_le_pow_right (by omega) (by omega))
    have h2 : m < 2 ^ d := Nat.lt_of_lt_of_le h1 (Nat.pow_le_pow_right (by omega) (by omega))
    rw [Nat.div_eq_of_lt h1, Nat.div_eq_of_lt h2, Nat.mod_eq_of_lt h1, Nat.mod_eq_of_lt h2]
    rcases hw with rfl | rfl <;> rfl
theorem cut_way (way : Ieee.Toward) (hw : way = .up ∨ way = .zero) (s : Bool) (m k : Nat) : way.cut s (m <<< (-1074 + (k : Int)).toNat) (-(-1074 + (k : Int))).toNat = m * 2 ^ k / 2 ^ 1074 + (match way with | .up => !s && m * 2 ^ k % 2 ^ 1074 != 0 | _ => false).toNat := by
  rw [cut_any way hw, Nat.shiftLeft_eq]
  by_cases hk : 1074 ≤ k
  · rw [show (-(-1074 + (k : Int))).toNat = 0 by omega, show (-1074 + (k : Int)).toNat = k - 1074 by omega, Nat.pow_zero, Nat.div_one, Nat.mod_one]
    have e0 := Nat.pow_add 2 (k - 1074) 1074
    rw [Nat.sub_add_cancel hk] at e0
    have e : m * 2 ^ k = m * 2 ^ (k - 1074) * 2 ^ 1074 := by rw [e0, Nat.mul_assoc]
    clear e0
    rw [e, Nat.mul_div_cancel _ (Nat.two_pow_pos 1074), Nat.mul_mod_left]
  · rw [show (-(-1074 + (k : Int))).toNat = 1074 - k by omega, show (-1074 + (k : Int)).toNat = 0 by omega, Nat.pow_zero, Nat.mul_one]
    have e : 2 ^ 1074 = 2 ^ (1074 - k) * 2 ^ k := by rw [← Nat.pow_add]; congr 1; omega
    rw [e]
    have hK : 0 < 2 ^ k := Nat.two_pow_pos k
    rw [Nat.mul_div_mul_right _ _ hK, Nat.mul_mod_mul_right]
    generalize 2 ^ (1074 - k) = D
    generalize 2 ^ k = K at *
    clear e
    have : (m % D * K != 0) = (m % D != 0) := by
      rw [Bool.eq_iff_iff]
      simp [bne_iff_ne, Nat.mul_eq_zero]
      omega
    rcases hw with rfl | rfl
    · simp only [this]
    · rfl
/-- How many whole ones, rounded up. -/
def upU (V : Nat) : Nat := V / 2 ^ 1074 + (V % 2 ^ 1074 != 0).toNat
/-- A number that is not below 0, rounded up: as Go's Ceil leaves it. -/
theorem ceil_read {b : Nat} (hb : b < 9218868437227405312) : FloatKind.f64.encode ((FloatKind.f64.decode b).integral .up) = roundB (upU (magB b) * 2 ^ 1074) := by
  have hb' : b % 9223372036854775808 = b := Nat.mod_eq_of_lt (by omega)
  obtain ⟨m, k, e, v⟩ := read_fin (b := b) (by rw [hb']; exact hb)
  have sb : sgnB b = false := by unfold sgnB; rw [Nat.div_eq_of_lt (by omega)]; rfl
  rw [hb'] at v
  rw [sb] at e
  unfold FloatKind.encode FloatKind.decode
  show Ieee.double.write ((Ieee.double.read b).integral .up) = _
  rw [e]
  unfold Ieee.Datum.integral
  simp only
  rw [cut_way .up (.inl rfl), v]
  show Ieee.double.nearest false (upU (magB b)) 0 = _
  have := nearest_eq false (upU (magB b)) 1074
  rw [show (-1074 + ((1074 : Nat) : Int)) = 0 by omega] at this
  rw [this, word_eq, if_neg (by decide)]
theorem toInt_read {b : Nat} (hb : b < 9218868437227405312) : (FloatKind.f64.decode b).toInt .zero = some ((magB b / 2 ^ 1074 : Nat) : Int) := by
  have hb' : b % 9223372036854775808 = b := Nat.mod_eq_of_lt (by omega)
  obtain ⟨m, k, e, v⟩ := read_fin (b := b) (by rw [hb']; exact hb)
  have sb : sgnB b = false := by unfold sgnB; rw [Nat.div_eq_of_lt (by omega)]; rfl
  rw [hb'] at v
  rw [sb] at e
  unfold FloatKind.decode
  show (Ieee.double.read b).toInt .zero = _
  rw [e]
  unfold Ieee.Datum.toInt Ieee.Datum.integral
  simp only
  rw [cut_way .zero (.inr rfl), v]
  generalize magB b / 2 ^ 1074 = c
  simp [Ieee.signed]
end Go.Proofs.Ytikjgonlngcglaa.Gg

/-
  Smooth, of the program and of the document.
-/
namespace Go.Proofs.Ytikjgonlngcglaa.Gg
open Go.RowKit Rl
set_option linter.unusedVariables false
/-- May it be a part of a way? -/
def alB (a : Nat) : Bool := decide (0 < a ∧ a ≤ 4607182418800017408)
/-- Smooth: the number, the error's. -/
def smB (v x a : Nat) : Nat := if nanB x then canonB v else if nanB v then x else addB v (mulB a (subB x v))
/-- A number against a positive one, as Go compares. -/
def ordZ (a : Nat) : Option Ordering := FloatKind.f64.format.order a 0
def ordO (a : Nat) : Option Ordering := FloatKind.f64.format.order a 4607182418800017408
theorem al_cases {a : Nat} (ha : a < 18446744073709551616) : (alB a = true ∧ (ordZ a == some .gt) = true ∧ (ordO a == some .lt || ordO a == some .eq) = true) ∨ (alB a = false ∧ ((ordZ a == some .gt) = false ∨ (ordO a == some .lt || ordO a == some .eq) = false)) := by
  unfold ordZ ordO alB
  rcases fcase ha with h | h | h | h
  · right
    have := nan_big h
    refine ⟨by simp; omega, .inl ?_⟩
    rw [order_nan (.inl h)]; rfl
  · rw [ord_pos h (by omega), ord_pos h (by omega)]
    by_cases h0 : a = 0
    · right; subst h0; exact ⟨by decide, .inl (by decide)⟩
    · rw [cmp0 (by omega)]
      rcases Nat.lt_trichotomy a 4607182418800017408 with q | q | q
      · left; rw [Nat.compare_eq_lt.2 q]; exact ⟨by simp; omega, by decide, by decide⟩
      · left; subst q; exact ⟨by decide, by decide, by decide⟩
      · right; rw [Nat.compare_eq_gt.2 q]; exact ⟨by simp; omega, .inr (by decide)⟩
  · right
    subst h
    exact ⟨by decide, .inl (by rw [ord_mz (by omega)]; decide)⟩
  · right
    refine ⟨by simp; omega, .inl ?_⟩
    rw [ord_neg h.1 h.2 (by omega)]; rfl
end Go.Proofs.Ytikjgonlngcglaa.Gg

/-
  Pace by data: products with a part, differences; what is wanted stays a small number.
-/
namespace Go.Proofs.Ytikjgonlngcglaa.Pc
open Go.RowKit Rl Gg
set_option linter.unusedVariables false
theorem cut_even (neg : Bool) (m d : Nat) : Ieee.Toward.even.cut neg m d = m / 2 ^ d + (decide (2 ^ d < 2 * (m % 2 ^ d) ∨ (2 ^ d = 2 * (m % 2 ^ d) ∧ m / 2 ^ d % 2 = 1))).toNat := by
  by_cases hd : d ≤ m.log2 + 2
  · exact cut_some neg m d hd
  · have h1 : m < 2 ^ (m.log2 + 1) := Nat.lt_log2_self
    have h2 : 2 ^ (m.log2 + 2) = 2 * 2 ^ (m.log2 + 1) := by rw [← Nat.pow_succ']
    have h3 : 2 ^ (m.log2 + 2) ≤ 2 ^ d := Nat.pow_le_pow_right (by omega) (by omega)
    have h0 : Ieee.Toward.even.cut neg m d = Ieee.Toward.even.cut neg m (m.log2 + 2) := by
      unfold Ieee.Toward.cut
      rw [Nat.min_eq_right (by omega), Nat.min_eq_right (Nat.le_refl _)]
    rw [h0, cut_some neg m _ (Nat.le_refl _)]
    rw [Nat.div_eq_of_lt (show m < 2 ^ (m.log2 + 2) by omega), Nat.div_eq_of_lt (show m < 2 ^ d by omega), Nat.mod_eq_of_lt (show m < 2 ^ (m.log2 + 2) by omega), Nat.mod_eq_of_lt (show m < 2 ^ d by omega)]
    rw [decide_eq_false (by omega), decide_eq_false (by omega)]
/-- The place of the last digit of a product, in units of 2^-2148. -/
def pl2 (V : Nat) : Nat := max (V.log2 - 52) 1074
def rn2 (V : Nat) : Nat := (pl2 V - 1074) * 4503599627370496 + V / 2 ^ pl2 V + (upB V (pl2 V)).toNat
theorem near2 (neg : Bool) {V : Nat} (hV : V ≠ 0) : Ieee.double.nearest neg V (-2148) = Ieee.double.word neg (min (rn2 V) 9218868437227405312) := by
  unfold Ieee.Format.nearest
  rw [if_neg hV, fmt_least, fmt_bin, fmt_inf]
  simp only
  have e0 : (Ieee.double.fractionBits : Int) = 52 := rfl
  have e1 : max (-2148 + (V.log2 : Int) - (Ieee.double.fractionBits : Int)) (-1074) = -2148 + (pl2 V : Int) := by
    rw [e0]; unfold pl2; omega
  have h1 : 1074 ≤ pl2 V := by unfold pl2; omega
  rw [e1, show (-2148 - (-2148 + (pl2 V : Int))).toNat = 0 by omega, show (-2148 + (pl2 V : Int) - -2148).toNat = pl2 V by omega, show (-2148 + (pl2 V : Int) - -1074).toNat = pl2 V - 1074 by omega]
  rw [Nat.shiftLeft_zero, cut_even]
  unfold rn2
  rw [up_iff _ _ (by omega), Nat.add_assoc]
theorem rn2_mono {V V' : Nat} (h : V ≤ V') (h0 : V ≠ 0) : rn2 V ≤ rn2 V' := by
  have hll : V.log2 ≤ V'.log2 := by
    rw [Nat.le_log2 (by omega)]
    exact Nat.le_trans (Nat.log2_self_le h0) h
  have hpp : pl2 V ≤ pl2 V' := by unfold pl2; omega
  have h1 : 1074 ≤ pl2 V := by unfold pl2; omega
  unfold rn2
  rcases Nat.lt_or_eq_of_le hpp with q | q
  · have e' : pl2 V' = V'.log2 - 52 := by unfold pl2 at *; omega
    have hd : 2 ^ (pl2 V') * 4503599627370496 ≤ V' := by
      rw [show (4503599627370496 : Nat) = 2 ^ 52 by rfl, ← Nat.pow_add, show pl2 V' + 52 = V'.log2 by omega]
      exact Nat.log2_self_le (by omega)
    have hq : 4503599627370496 ≤ V' / 2 ^ (pl2 V') := (Nat.le_div_iff_mul_le (Nat.two_pow_pos _)).2 (by rw [Nat.mul_comm]; exact hd)
    have hv : V / 2 ^ (pl2 V) < 9007199254740992 := by
      rw [Nat.div_lt_iff_lt_mul (Nat.two_pow_pos _), show (9007199254740992 : Nat) = 2 ^ 53 by rfl, ← Nat.pow_add]
      refine Nat.lt_of_lt_of_le Nat.lt_log2_self (Nat.pow_le_pow_right (by omega) ?_)
      unfold pl2; omega
    have hu : (upB V (pl2 V)).toNat ≤ 1 := by cases upB V (pl2 V) <;> simp
    exact fin1 (by omega) hq hv hu
  · rw [← q]
    exact fin2 (up_mono h (by omega))
theorem rn2_mag {d : Nat} (hd : d < 9218868437227405312) (h0 : d ≠ 0) : min (rn2 (magB d * 2 ^ 1074)) 9218868437227405312 = d := by
  have hm : magB d ≠ 0 := by
    have := mag_mono (show 0 < d by omega)
    rw [mag_zero] at this
    omega
  have hV : magB d * 2 ^ 1074 ≠ 0 := Nat.mul_ne_zero hm (Nat.pos_iff_ne_zero.1 (Nat.two_pow_pos 1074))
  have e1 := near2 false hV
  have e2 := nearest_scale false (magB d) 1074 (-2148)
  have e3 := nearest_eq false (magB d) 0
  rw [Nat.pow_zero, Nat.mul_one, round_mag hd, word_eq, if_neg (by decide)] at e3
  rw [show (-2148 + ((1074 : Nat) : Int)) = -1074 + ((0 : Nat) : Int) by omega, e3] at e2
  rw [e2, word_eq, if_neg (by decide)] at e1
  exact e1.symm
theorem mag_one : magB 4607182418800017408 = 2 ^ 1074 := by decide +kernel
/-- A part of a number: no greater than the number. -/
theorem mul_part {a x : Nat} (ha : a ≤ 4607182418800017408) (hx : x % 9223372036854775808 < 9218868437227405312) : ∃ r, Ieee.double.mul a x = some (Ieee.double.word (sgnB x) r) ∧ r ≤ x % 9223372036854775808 := by
  have ha' : a % 9223372036854775808 = a := Nat.mod_eq_of_lt (by omega)
  obtain ⟨ma, ka, ea, va⟩ := read_fin (b := a) (by omega)
  obtain ⟨mb, kb, eb, vb⟩ := read_fin (b := x) hx
  have sa : sgnB a = false := by unfold sgnB; rw [Nat.div_eq_of_lt (by omega)]; rfl
  rw [ha'] at va
  rw [sa] at ea
  obtain ⟨d, hd⟩ : ∃ d, d = x % 9223372036854775808 := ⟨_, rfl⟩
  rw [← hd] at vb hx ⊢
  have hm : Ieee.double.mul a x = some (Ieee.double.nearest (sgnB x) (ma * mb) (-1074 + (ka : Int) + (-1074 + (kb : Int)))) := by
    unfold Ieee.Format.mul
    rw [ea, eb]
    show some (Ieee.double.write (.number (false ^^ sgnB x) (ma * mb) (-1074 + (ka : Int) + (-1074 + (kb : Int))))) = _
    rw [Bool.false_xor]
    rfl
  have e1 := nearest_scale (sgnB x) (ma * mb) (ka + kb) (-2148)
  have e3 : ma * mb * 2 ^ (ka + kb) = magB a * magB d := by
    rw [← va, ← vb, Nat.pow_add]
    ac_rfl
  rw [e3] at e1
  rw [hm, show (-1074 + (ka : Int) + (-1074 + (kb : Int))) = -2148 + ((ka + kb : Nat) : Int) by omega, ← e1]
  by_cases hz : magB a * magB d = 0
  · refine ⟨0, ?_, by omega⟩
    rw [hz]
    unfold Ieee.Format.nearest
    rw [if_pos rfl]
  · have h0 : d ≠ 0 := by
      rintro rfl
      rw [mag_zero, Nat.mul_zero] at hz
      exact hz rfl
    refine ⟨_, by rw [near2 _ hz], ?_⟩
    have hle : magB a * magB d ≤ magB d * 2 ^ 1074 := by
      have := mag_le ha
      rw [mag_one] at this
      rw [Nat.mul_comm]
      exact Nat.mul_le_mul_left _ this
    exact Nat.le_trans (Nat.le_min.2 ⟨Nat.le_trans (Nat.min_le_left _ _) (rn2_mono hle hz), Nat.min_le_right _ _⟩) (Nat.le_of_eq (rn2_mag hx h0))
theorem read_flip {b : Nat} (hb : b < 9218868437227405312) : (Ieee.double.read b).opposite = Ieee.double.read (9223372036854775808 + b) := by
  have e1 : (9223372036854775808 + b) % 9223372036854775808 = b := by omega
  obtain ⟨m, k, e, v⟩ := read_fin (b := b) (by omega)
  unfold Ieee.Format.read
  rw [fmt_sign, fmt_bin, fmt_inf, fmt_least]
  simp only
  rw [e1, Nat.mod_eq_of_lt (show b < 9223372036854775808 by omega)]
  have s1 : (b / 9223372036854775808 % 2 == 1) = false := by rw [Nat.div_eq_of_lt (by omega)]; rfl
  have s2 : ((9223372036854775808 + b) / 9223372036854775808 % 2 == 1) = true := by
    rw [show (9223372036854775808 + b) / 9223372036854775808 = 1 by omega]; rfl
  rw [s1, s2, if_pos hb, if_pos hb]
  split <;> rfl
/-- The difference of two numbers from 0 on. -/
theorem sub_pos {a b : Nat} (ha : a < 9218868437227405312) (hb : b < 9218868437227405312) : Ieee.double.sub a b = some (signB ((magB a : Int) - (magB b : Int))) := by
  have h := add_fin (a := a) (b := 9223372036854775808 + b) (by omega) (by omega) (by omega) (by omega)
  rw [if_neg (by omega)] at h
  have e : Ieee.double.sub a b = Ieee.double.add a (9223372036854775808 + b) := by
    unfold Ieee.Format.sub Ieee.Format.add
    rw [read_flip hb]
  rw [e, h, sg_pos (by omega)]
  have : sg (9223372036854775808 + b) = -(magB b : Int) := by
    unfold sg
    rw [if_neg (by omega), show 9223372036854775808 + b - 9223372036854775808 = b by omega]
  rw [this, Int.sub_eq_add_neg]
theorem sign_pos {n : Nat} : signB (n : Int) = roundB n := by
  unfold signB
  rw [if_neg (by omega), Int.natAbs_natCast]
theorem sub_ge {a b : Nat} (ha : a < 9218868437227405312) (h : b ≤ a) : Ieee.double.sub a b = some (roundB (magB a - magB b)) := by
  have := mag_le h
  rw [sub_pos ha (by omega), show (magB a : Int) - (magB b : Int) = ((magB a - magB b : Nat) : Int) by omega, sign_pos]
theorem round_le {V b : Nat} (hb : b < 9218868437227405312) (h : V ≤ magB b) : roundB V ≤ b := by
  have := round_mono h
  rwa [round_mag hb] at this
theorem round_ge {V b : Nat} (hb : b < 9218868437227405312) (h : magB b ≤ V) : b ≤ roundB V := by
  have := round_mono h
  rwa [round_mag hb] at this
/-- What is wanted is such a number: at most 512. -/
abbrev b512 : Nat := 4647714815446351872
theorem mag_512 : magB 4647714815446351872 = 512 * 2 ^ 1074 := by decide +kernel
theorem mag_256 : magB 4643211215818981376 = 256 * 2 ^ 1074 := by decide +kernel
def nf (n : Nat) : Nat := FloatKind.f64.nearest (n : Int)
theorem nf_at (n : Nat) (hn : n < 9007199254740992) : magB (nf n) = n * 2 ^ 1074 ∧ nf n < 9218868437227405312 := ⟨nf_mag hn, by unfold nf; rw [nf_eq]; exact round_lt_inf hn⟩
theorem nf_256 {n : Nat} (hn : n ≤ 256) : nf n ≤ 4643211215818981376 := by
  rcases Nat.lt_or_ge 4643211215818981376 (nf n) with h | h
  · exfalso
    have h1 := mag_mono h
    rw [mag_256, (nf_at n (by omega)).1] at h1
    have := Nat.lt_of_mul_lt_mul_right h1
    omega
  · exact h
theorem canon_fin {r : Nat} (h : r % 9223372036854775808 < 9218868437227405312) : canonB r = r := canon_num (by unfold nanB; simp; omega)
theorem fin_add {S X R U : Nat} (h1 : S ≤ X) (h2 : X ≤ 256 * U) (h3 : R ≤ 256 * U) : S + R ≤ 512 * U := by omega
/-- Smooth keeps it so, and no step of it is a NaN. -/
theorem sm_runs {s n a : Nat} (hs : s ≤ b512) (hn : n ≤ 256) (ha : a ≤ 4607182418800017408) : ∃ d m t, Ieee.double.sub (nf n) s = some d ∧ Ieee.double.mul a d = some m ∧ Ieee.double.add s m = some t ∧ t ≤ b512 ∧ smB s (nf n) a = t := by
  unfold b512 at *
  have hx := nf_256 hn
  obtain ⟨xm, xi⟩ := nf_at n (by omega)
  generalize nf n = x at *
  have nx : nanB x = false := nn (by omega)
  have ns : nanB s = false := nn (by omega)
  have hsm : smB s x a = addB s (mulB a (subB x s)) := by unfold smB; rw [if_neg (by simp [nx]), if_neg (by simp [ns])]
  rw [hsm]
  have S512 := mag_le hs
  have X256 := mag_le hx
  rw [mag_512] at S512
  rw [mag_256] at X256
  rcases Nat.lt_or_ge x s with h | h
  · have hm := mag_le (Nat.le_of_lt h)
    have hd : roundB (magB s - magB x) ≤ s := round_le (by omega) (by omega)
    have e0 : Ieee.double.sub x s = some (9223372036854775808 + roundB (magB s - magB x)) := by
      have hlt := mag_mono h
      rw [sub_pos (by omega) (by omega)]
      unfold signB
      rw [if_pos (by omega), show ((magB x : Int) - (magB s : Int)).natAbs = magB s - magB x by omega]
    generalize roundB (magB s - magB x) = d at *
    have e1 : subB x s = 9223372036854775808 + d := by
      unfold subB
      rw [e0]
      show canonB _ = _
      rw [canon_fin (by omega)]
    have dm : (9223372036854775808 + d) % 9223372036854775808 = d := by omega
    obtain ⟨r, er, hr⟩ := mul_part (x := 9223372036854775808 + d) ha (by omega)
    rw [dm] at hr
    have sd : sgnB (9223372036854775808 + d) = true := by unfold sgnB; rw [show (9223372036854775808 + d) / 9223372036854775808 = 1 by omega]; rfl
    rw [sd, word_eq, if_pos rfl] at er
    have e2 : mulB a (subB x s) = 9223372036854775808 + r := by
      unfold mulB
      rw [e1, er]
      show canonB _ = _
      rw [canon_fin (by omega)]
    have hs2 : sg (9223372036854775808 + r) = -(magB r : Int) := by
      unfold sg
      rw [if_neg (by omega), show 9223372036854775808 + r - 9223372036854775808 = r by omega]
    have hrm := mag_le (Nat.le_trans hr hd)
    have e3 : Ieee.double.add s (9223372036854775808 + r) = some (roundB (magB s - magB r)) := by
      rw [add_fin (by omega) (by omega) (by omega) (by omega), if_neg (by omega), sg_pos (by omega), hs2, show (magB s : Int) + -(magB r : Int) = ((magB s - magB r : Nat) : Int) by omega, sign_pos]
    have hq : roundB (magB s - magB r) ≤ s := round_le (by omega) (by omega)
    refine ⟨_, _, _, e0, er, e3, by omega, ?_⟩
    rw [e2]
    unfold addB
    rw [e3]
    show canonB _ = _
    rw [canon_fin (by omega)]
  · have hm := mag_le h
    have hd : roundB (magB x - magB s) ≤ x := round_le (by omega) (by omega)
    have e0 := sub_ge (a := x) (by omega) h
    generalize roundB (magB x - magB s) = d at *
    have e1 : subB x s = d := by
      unfold subB
      rw [e0]
      show canonB _ = _
      rw [canon_fin (by omega)]
    have dm : d % 9223372036854775808 = d := by omega
    obtain ⟨r, er, hr⟩ := mul_part (x := d) ha (by omega)
    rw [dm] at hr
    have sd : sgnB d = false := by unfold sgnB; rw [Nat.div_eq_of_lt (by omega)]; rfl
    rw [sd, word_eq, if_neg (by decide)] at er
    have e2 : mulB a (subB x s) = r := by
      unfold mulB
      rw [e1, er]
      show canonB _ = _
      rw [canon_fin (by omega)]
    have hrm := mag_le (Nat.le_trans hr (Nat.le_trans hd hx))
    rw [mag_256] at hrm
    have e3 : Ieee.double.add s r = some (roundB (magB s + magB r)) := by
      rw [add_fin (by omega) (by omega) (by omega) (by omega), if_neg (by omega), sg_pos (by omega), sg_pos (by omega), show (magB s : Int) + (magB r : Int) = ((magB s + magB r : Nat) : Int) by omega, sign_pos]
    have hq : roundB (magB s + magB r) ≤ 4647714815446351872 := round_le (by omega) (Nat.le_trans (fin_add hm X256 hrm) (Nat.le_of_eq mag_512.symm))
    refine ⟨_, _, _, e0, er, e3, hq, ?_⟩
    rw [e2]
    unfold addB
    rw [e3]
    show canonB _ = _
    rw [canon_fin (by omega)]
theorem up_le {V n : Nat} (h : V ≤ n * 2 ^ 1074) : upU V ≤ n := by
  unfold upU
  have hU := Nat.two_pow_pos 1074
  generalize 2 ^ 1074 = U at *
  by_cases h0 : V % U = 0
  · rw [h0]
    show V / U + 0 ≤ n
    have := Nat.div_le_of_le_mul (show V ≤ U * n by rw [Nat.mul_comm]; exact h)
    omega
  · have : V / U < n := by
      rw [Nat.div_lt_iff_lt_mul hU]
      rcases Nat.lt_or_eq_of_le h with q | q
      · exact q
      · rw [q, Nat.mul_mod_left] at h0; exact absurd rfl h0
    have h2 : (V % U != 0).toNat ≤ 1 := by cases (V % U != 0) <;> simp
    omega
theorem le_up (V : Nat) : V ≤ upU V * 2 ^ 1074 := by
  unfold upU
  have hU := Nat.two_pow_pos 1074
  generalize 2 ^ 1074 = U at *
  have d := Nat.div_add_mod V U
  have m := Nat.mod_lt V hU
  by_cases h0 : V % U = 0
  · have : (V % U != 0) = false := by simp [h0]
    rw [this, Bool.toNat_false, Nat.add_zero, Nat.mul_comm]
    omega
  · have : (V % U != 0) = true := by simp [h0]
    rw [this, Bool.toNat_true, Nat.add_mul, Nat.one_mul, Nat.mul_comm]
    omega
theorem up_iff2 (V n : Nat) : upU V ≤ n ↔ V ≤ n * 2 ^ 1074 := ⟨fun h => Nat.le_trans (le_up V) (Nat.mul_le_mul_right _ h), up_le⟩
theorem up_512 {s : Nat} (hs : s ≤ b512) : upU (magB s) ≤ 512 := up_le (by have := mag_le hs; rwa [mag_512] at this)
theorem nf_less {d i : Nat} (h : d < i) (hi : i < 9007199254740992) : nf d < nf i := by
  rcases Nat.lt_or_ge (nf d) (nf i) with c | c
  · exact c
  · exfalso
    have h1 := mag_le c
    rw [(nf_at i hi).1, (nf_at d (by omega)).1] at h1
    have := Nat.le_of_mul_le_mul_right h1 (Nat.two_pow_pos 1074)
    omega
theorem nf_order {d i : Nat} (hd : d < 9007199254740992) (hi : i < 9007199254740992) : FloatKind.f64.format.order (nf d) (nf i) = some (compare d i) := by
  have a := (nf_at d hd).2
  have b := (nf_at i hi).2
  rw [ord_pos (by omega) (by omega)]
  rcases Nat.lt_trichotomy d i with h | h | h
  · rw [Nat.compare_eq_lt.2 (nf_less h hi), Nat.compare_eq_lt.2 h]
  · subst h; simp
  · rw [Nat.compare_eq_gt.2 (nf_less h hd), Nat.compare_eq_gt.2 h]
/-- Is a whole number at least what is wanted? -/
theorem nf_reach {n s : Nat} (hn : n < 9007199254740992) (hs : s < 9218868437227405312) : s ≤ nf n ↔ upU (magB s) ≤ n := by
  obtain ⟨m, i⟩ := nf_at n hn
  rw [up_iff2, ← m]
  constructor
  · exact mag_le
  · intro h
    rcases Nat.lt_or_ge (nf n) s with c | c
    · have := mag_mono c; omega
    · exact c
end Go.Proofs.Ytikjgonlngcglaa.Pc

/-
  A region that draws its order, whose last call turns what the loads read: S is asked behind every operation but that one, for which all loads wait no more. (After the law of regions that hold loads beside calls: the same proof, but for the one operation.)
-/
namespace Go.Proofs.Ytikjgonlngcglaa.Ix
open Go
variable {P : Program} {ops : Array Oper} {Q : Exit → Act → World → Prop} {md : Region.Mode} {S : World → Prop} {d : Nat}
/-- m waits for p, the next for m, and so on. -/
def pathB (md : Region.Mode) (ops : Array Oper) : Nat → List Nat → Bool
  | _, [] => true
  | p, m :: r => (match ops[m]? with | some o => o.after.any fun e => Region.binds md e && e.on == p | none => false) && pathB md ops m r
theorem not_ready {listed : Array Bool} : ∀ (ms : List Nat) (p : Nat), pathB md ops p ms = true → listed.getD p false = false → (∀ m ∈ ms, listed.getD m true = false) → ∀ m ∈ ms, m ∉ Region.ready md ops listed := by
  intro ms
  induction ms with
  | nil => intro p _ _ _ m hm; cases hm
  | cons a r ih =>
    intro p hp hl hu m hm
    rw [pathB, Bool.and_eq_true] at hp
    obtain ⟨h1, h2⟩ := hp
    have ha : a ∉ Region.ready md ops listed := fun hr => by
      obtain ⟨_, o, ho, hall⟩ := mem_ready.1 hr
      rw [ho] at h1
      simp only [Array.any_eq_true] at h1
      obtain ⟨i, hi, he⟩ := h1
      rw [Bool.and_eq_true] at he
      have := hall _ (Array.getElem_mem hi) he.1
      rw [show (o.after[i]).on = p by simpa using he.2, hl] at this
      cases this
    rcases List.mem_cons.1 hm with rfl | hm
    · exact ha
    · have hla : listed.getD a false = false := by
        have := hu a (by simp)
        by_cases hs : a < listed.size
        · simp [Array.getD, hs] at this ⊢; exact this
        · simp [Array.getD, hs]
      exact ih a h2 hla (fun m hm => hu m (by simp [hm])) m hm
/-- Whatever order is picked from here on, and S holds behind every operation that is carried out, but behind d. -/
def wpAnyT (P : Program) (md : Region.Mode) (ops : Array Oper) (Q : Exit → Act → World → Prop) (S : World → Prop) (d : Nat) : Nat → Array Bool → Act → World → Prop
  | 0, listed, a, w => Region.ready md ops listed = [] ∧ Q .normal a w
  | fuel + 1, listed, a, w =>
    (Region.ready md ops listed = [] → Q .normal a w) ∧
    ∀ i ∈ Region.ready md ops listed, wpOp P ops Q i (fun a' w' => ((listed.setIfInBounds i true).getD d false = false → S w') ∧ wpAnyT P md ops Q S d fuel (listed.setIfInBounds i true) a' w') a w
theorem wpAny_of_T : ∀ (fuel : Nat) (listed : Array Bool) (a : Act) (w : World), wpAnyT P md ops Q S d fuel listed a w → wpAny P md ops Q fuel listed a w
  | 0, _, _, _, h => h
  | fuel + 1, _, _, _, h => ⟨h.1, fun i hi => wpOp_mono (fun a' w' h' => wpAny_of_T fuel _ a' w' h'.2) (h.2 i hi)⟩
theorem getD_false {listed : Array Bool} {m : Nat} (h : listed.getD m true = false) : listed.getD m false = false := by
  by_cases hs : m < listed.size
  · simp [Array.getD, hs] at h ⊢; exact h
  · simp [Array.getD, hs]
theorem vac {b : Bool} {p : Prop} (hb : b = true) : b = false → p := fun h => by rw [hb] at h; cases h
theorem getD_unlisted {listed : Array Bool} {j m : Nat} (h : listed.getD m true = false) (hne : j ≠ m) : (listed.setIfInBounds j true).getD m true = false := by
  rw [getD_set_ne true hne]; exact h
theorem wpAnyT_first {i : Nat} {oi : Oper} {v : Value} {ms : List Nat} (hi : ops[i]? = some oi) (hsel : ∀ (j : Nat) (o : Oper) cs b, ops[j]? = some o → o.op ≠ .select cs b)
    (hQ : ∀ c a w, Q (.panic c) (a.put oi.dst v) w → Q (.panic c) a w) (hpath : pathB md ops i ms = true) (hdm : d ∈ ms) :
    ∀ (fuel : Nat) (listed : Array Bool) (a : Act) (w : World),
      (∀ j oj, ops[j]? = some oj → j ≠ i → listed.getD j true = false → (∀ e ∈ oj.after, Region.binds md e = true → e.on ≠ i) → oi.apart ops oj = true) →
      i ∈ Region.ready md ops listed → (∀ m ∈ ms, listed.getD m true = false) → YieldsIf P ops S oi v a → S w →
      wpAnyT P md ops Q S d fuel (listed.setIfInBounds i true) (a.put oi.dst v) w → wpAnyT P md ops Q S d (fuel + 1) listed a w := by
  intro fuel
  induction fuel with
  | zero =>
    intro listed a w _ hr _ hy hS H
    refine ⟨fun h => (by rw [h] at hr; cases hr), fun j hj => ?_⟩
    by_cases hji : j = i
    · subst hji; exact hy.wpOp hi hS ⟨fun _ => hS, H⟩
    · have := ready_mono hj hji
      rw [H.1] at this
      cases this
  | succ fuel ih =>
    intro listed a w hfree hr hms hy hS H
    refine ⟨fun h => (by rw [h] at hr; cases hr), fun j hj => ?_⟩
    by_cases hji : j = i
    · subst hji; exact hy.wpOp hi hS ⟨fun _ => hS, H⟩
    · have hil : listed.getD i false = false := by
        have := (mem_ready.1 hr).1
        by_cases hs : i < listed.size
        · simp [Array.getD, hs] at this ⊢; exact this
        · simp [Array.getD, hs]
      have hnm : j ∉ ms := fun h => not_ready ms i hpath hil hms j h hj
      have hjd : j ≠ d := fun e => hnm (by rw [e]; exact hdm)
      have hid : i ≠ d := fun e => not_ready ms i hpath hil hms d hdm (by rw [← e]; exact hr)
      have hdj : ((listed.setIfInBounds i true).setIfInBounds j true).getD d false = false := getD_false (getD_unlisted (getD_unlisted (hms d hdm) hid) hjd)
      have h1 := H.2 j (ready_mono hj hji)
      obtain ⟨hjun, oj, hoj, hall⟩ := mem_ready.1 hj
      have hnot : ∀ e ∈ oj.after, Region.binds md e = true → e.on ≠ i := fun e he hb heq => by
        have h1 := hall e he hb
        rw [heq, hil] at h1
        cases h1
      have h2 := wpOp_putIf hoj (hfree j oj hoj hji hjun hnot) (fun cs b => hsel i oi cs b hi) (fun cs b => hsel j oj cs b hoj) hQ hy h1
      have hfree' : ∀ k ok, ops[k]? = some ok → k ≠ i → (listed.setIfInBounds j true).getD k true = false →
          (∀ e ∈ ok.after, Region.binds md e = true → e.on ≠ i) → oi.apart ops ok = true := fun k ok hk hki hun hno => by
        refine hfree k ok hk hki ?_ hno
        by_cases hjk : j = k
        · subst hjk; exact hjun
        · rw [getD_set_ne true hjk] at hun; exact hun
      refine wpOp_mono (fun a' w' h3 => ⟨fun _ => h3.2.1 hdj, ih (listed.setIfInBounds j true) a' w' hfree' (ready_mono hr (Ne.symm hji)) (fun m hm => getD_unlisted (hms m hm) (fun e => hnm (by rw [e]; exact hm))) h3.1 (h3.2.1 hdj) ?_⟩) h2
      rw [Array.setIfInBounds_comm _ _ hji]
      exact h3.2.2
theorem wpAnyT_take {i : Nat} {oi : Oper} {v : Value} (ms : List Nat) {fuel : Nat} {listed : Array Bool} {a : Act} {w : World} (hi : ops[i]? = some oi)
    (hs : Region.noSelect ops = true) (hf : Region.free md ops listed i = true) (hr : (Region.ready md ops listed).contains i = true)
    (hp : (pathB md ops i ms && ms.contains d && ms.all fun m => listed.getD m true == false) = true)
    (hQ : ∀ c a w, Q (.panic c) (a.put oi.dst v) w → Q (.panic c) a w) (hy : YieldsIf P ops S oi v a) (hS : S w)
    (h : wpAnyT P md ops Q S d fuel (listed.setIfInBounds i true) (a.put oi.dst v) w) : wpAnyT P md ops Q S d (fuel + 1) listed a w := by
  simp only [Bool.and_eq_true, List.all_eq_true] at hp
  exact wpAnyT_first hi (Region.noSelect_spec hs) hQ hp.1.1 (by simpa using hp.1.2) fuel listed a w (Region.free_spec hi hf) (by simpa using hr) (fun m hm => by simpa using hp.2 m hm) hy hS h
/-- Only one may come up. -/
theorem wpAnyT_one {i : Nat} {o : Oper} {fuel : Nat} {listed : Array Bool} {a : Act} {w : World} (hr : Region.ready md ops listed = [i]) (ho : ops[i]? = some o)
    (h : ∀ K' : Act → World → Prop, Shut (∀ a w, ((listed.setIfInBounds i true).getD d false = false → S w) → wpAnyT P md ops Q S d fuel (listed.setIfInBounds i true) a w → K' a w) → if Region.wanted o (yielded ops a.tmps) = true then Oper.wp P o a w K' Q else K' (a.put o.dst undef) w) :
    wpAnyT P md ops Q S d (fuel + 1) listed a w := by
  refine ⟨fun h0 => (by rw [h0] at hr; cases hr), fun j hj => ?_⟩
  rw [hr, List.mem_singleton] at hj
  subst hj
  exact wpOp_step ho (fun K' hK => h K' (fun a w hS hW => hK a w ⟨hS, hW⟩))
theorem wpAnyT_done {listed : Array Bool} {a : Act} {w : World} (hr : Region.ready md ops listed = []) (h : Q .normal a w) : ∀ fuel, wpAnyT P md ops Q S d fuel listed a w
  | 0 => ⟨hr, h⟩
  | _ + 1 => ⟨fun _ => h, by rw [hr]; simp⟩
theorem wp_region_T {id : Nat} {a : Act} {w : World} (S : World → Prop) (d : Nat) (hm : P.follows .mixedOrders = true)
    (h : wpAnyT P .any ops Q S d ops.size (Array.replicate ops.size false) a w.drew) : (Code.region id ops true).wp P Q a w :=
  wp_region_any hm (wpAny_of_T _ _ _ _ h)
end Go.Proofs.Ytikjgonlngcglaa.Ix

/-
  Pace: params, New.
-/
namespace Go.Proofs.Ytikjgonlngcglaa.Pc
open Go.RowKit Rl Gg
set_option linter.unusedVariables false
set_option maxRecDepth 100000
theorem keepF {w u v : World} (h : Below w.heap.size w u) (q : Below u.heap.size u v) : Below w.heap.size w v := h.trans (q.mono h.size)
theorem cell_of {w : World} {b j : Nat} {cs : Array Value} {T : TypeId} {z : Nat × Nat} (h : w.heap[b]? = some (.cells cs T z)) : w.cell? ⟨b, j, none⟩ = cs[j]? := by simp [World.cell?, h]
/-- Params: Most, Bytes, Linger, Alpha (by their bits). -/
structure Q where
  mo : Int
  by' : Int
  li : Nat
  al : Nat
def Q.val (q : Q) : Value := .agg #[.int .i64 q.mo, .int .i64 q.by', .float .f64 q.li, .float .f64 q.al]
def liB (l : Nat) : Bool := decide (l ≤ 4697254411347427328 ∨ l = 9223372036854775808)
def mayB (q : Q) : Bool := decide (1 ≤ q.mo) && decide (q.mo ≤ 256) && decide (1 ≤ q.by') && decide (q.by' ≤ 1048576) && liB q.li && alB q.al
def l1 (l : Nat) : Bool := FloatKind.f64.format.order l 0 == some .gt || FloatKind.f64.format.order l 0 == some .eq
def l2 (l : Nat) : Bool := FloatKind.f64.format.order l 4697254411347427328 == some .lt || FloatKind.f64.format.order l 4697254411347427328 == some .eq
def a1 (a : Nat) : Bool := FloatKind.f64.format.order a 0 == some .gt
def a2 (a : Nat) : Bool := FloatKind.f64.format.order a 4607182418800017408 == some .lt || FloatKind.f64.format.order a 4607182418800017408 == some .eq
theorem li_eq {l : Nat} (hl : l < 18446744073709551616) : (l1 l && l2 l) = liB l := by
  unfold l1 l2 liB
  rcases fcase hl with h | h | h | h
  · have := nan_big h
    rw [order_nan (.inl h), order_nan (.inl h), decide_eq_false (by omega)]; rfl
  · rw [ord_pos h (by omega), ord_pos h (by omega)]
    by_cases h0 : l = 0
    · subst h0; decide
    · rw [cmp0 (by omega)]
      rcases Nat.lt_trichotomy l 4697254411347427328 with q | q | q
      · rw [Nat.compare_eq_lt.2 q, decide_eq_true (by omega)]; rfl
      · subst q; decide
      · rw [Nat.compare_eq_gt.2 q, decide_eq_false (by omega)]; rfl
  · subst h; rw [ord_mz (by omega), ord_mz (by omega)]; decide
  · rw [ord_neg h.1 h.2 (by omega), ord_neg h.1 h.2 (by omega), decide_eq_false (by omega)]; rfl
theorem al_eq {a : Nat} (ha : a < 18446744073709551616) : (a1 a && a2 a) = alB a := by
  unfold a1 a2
  rcases al_cases ha with ⟨h0, h1, h2⟩ | ⟨h0, h1⟩
  · unfold ordZ ordO at *
    rw [h0, h1, h2]; rfl
  · unfold ordZ ordO at *
    rw [h0]
    rcases h1 with h1 | h1
    · rw [h1]; rfl
    · rw [h1, Bool.and_false]
/-- At block b lies a pace (of type T): its params, what is wanted. -/
def At (T : TypeId) (w : World) (b : Nat) (q : Q) (s : Nat) : Prop := w.heap[b]? = some (.cells #[.int .i64 q.mo, .int .i64 q.by', .float .f64 q.li, .float .f64 q.al, .float .f64 s] T (0, 0))
theorem At.but {T : TypeId} {Y : Nat → Prop} {A B : World} {b : Nat} {q : Q} {s : Nat} (h : At T A b q s) (hb : But Y A B) (hx : ¬ Y b) : At T B b q s := hb.at h hx
theorem At.below {T : TypeId} {A B : World} {b : Nat} {q : Q} {s : Nat} (h : At T A b q s) (hb : Below A.heap.size A B) : At T B b q s := h.but (But.of_below hb fun _ => False) fun c => c
theorem At.lt {T : TypeId} {w : World} {b : Nat} {q : Q} {s : Nat} (h : At T w b q s) : b < w.heap.size := heap_lt h
theorem At.cells {T : TypeId} {w : World} {b : Nat} {q : Q} {s : Nat} (h : At T w b q s) : w.cell? ⟨b, 0, none⟩ = some (.int .i64 q.mo) ∧ w.cell? ⟨b, 1, none⟩ = some (.int .i64 q.by') ∧ w.cell? ⟨b, 2, none⟩ = some (.float .f64 q.li) ∧ w.cell? ⟨b, 3, none⟩ = some (.float .f64 q.al) ∧ w.cell? ⟨b, 4, none⟩ = some (.float .f64 s) := by
  refine ⟨?_, ?_, ?_, ?_, ?_⟩ <;> (rw [cell_of h]; rfl)
theorem At.frozen {T : TypeId} {w : World} {b : Nat} {q : Q} {s : Nat} (h : At T w b q s) (j : Nat) : w.frozen? ⟨b, j, none⟩ = false := by unfold At at h; simp [World.frozen?, h]
theorem At.set {T : TypeId} {w : World} {b : Nat} {q : Q} {s : Nat} (h : At T w b q s) (x : Nat) : At T (w.setCell ⟨b, 4, none⟩ (.float .f64 x)) b q x := by unfold At at h ⊢; rw [heap_setCell_same w b 4 _ _ _ h]; rfl
theorem may_split (x1 x2 x3 x4 x5 x6 x7 x8 : Bool) : (x1 = false) ∨ (x1 = true ∧ x2 = false) ∨ (x1 = true ∧ x2 = true ∧ x3 = false) ∨ (x1 = true ∧ x2 = true ∧ x3 = true ∧ x4 = false) ∨ (x1 = true ∧ x2 = true ∧ x3 = true ∧ x4 = true ∧ x5 = false) ∨ (x1 = true ∧ x2 = true ∧ x3 = true ∧ x4 = true ∧ x5 = true ∧ x6 = false) ∨ (x1 = true ∧ x2 = true ∧ x3 = true ∧ x4 = true ∧ x5 = true ∧ x6 = true ∧ x7 = false) ∨ (x1 = true ∧ x2 = true ∧ x3 = true ∧ x4 = true ∧ x5 = true ∧ x6 = true ∧ x7 = true ∧ x8 = false) ∨ (x1 = true ∧ x2 = true ∧ x3 = true ∧ x4 = true ∧ x5 = true ∧ x6 = true ∧ x7 = true ∧ x8 = true) := by
  cases x1 <;> cases x2 <;> cases x3 <;> cases x4 <;> cases x5 <;> cases x6 <;> cases x7 <;> cases x8 <;> simp
theorem may_any (w : World) (q : Q) (hl : q.li < 18446744073709551616) (ha : q.al < 18446744073709551616) : Calls Try.prog 19 #[q.val] w fun e w' => e = .returned (.bool (mayB q)) ∧ Below w.heap.size w w' := by
  obtain ⟨mo, bb, li, al⟩ := q
  have hB : Hid (mayB ⟨mo, bb, li, al⟩ = (decide (1 ≤ mo) && decide (mo ≤ 256) && decide (1 ≤ bb) && decide (bb ≤ 1048576) && (l1 li && l2 li) && (a1 al && a2 al))) := hide (by rw [li_eq hl, al_eq ha]; rfl)
  have B1 := hide (box_below w (.cells #[.int .i64 mo, .int .i64 bb, .float .f64 li, .float .f64 al] 27))
  unfold Q.val
  simp only
  rw [hB.out]
  clear hB hl ha
  rcases may_split (decide (1 ≤ mo)) (decide (mo ≤ 256)) (decide (1 ≤ bb)) (decide (bb ≤ 1048576)) (l1 li) (l2 li) (a1 al) (a2 al) with h | h | h | h | h | h | h | h | h
  · have h1 := h
    rw [h1]
    clear h
    replace h1 := of_decide_eq_false h1
    go_enter Try.func19, Try.ntmps19
    go_wp2_with fail
    go_ret
    exact ⟨by first | rfl | simp, B1.out⟩
  · obtain ⟨h1, h2⟩ := h
    rw [h1, h2]
    replace h1 := of_decide_eq_true h1
    replace h2 := of_decide_eq_false h2
    go_enter Try.func19, Try.ntmps19
    go_wp2_with fail
    go_ret
    exact ⟨by first | rfl | simp, B1.out⟩
  · obtain ⟨h1, h2, h3⟩ := h
    rw [h1, h2, h3]
    replace h1 := of_decide_eq_true h1
    replace h2 := of_decide_eq_true h2
    replace h3 := of_decide_eq_false h3
    go_enter Try.func19, Try.ntmps19
    go_wp2_with fail
    go_ret
    exact ⟨by first | rfl | simp, B1.out⟩
  · obtain ⟨h1, h2, h3, h4⟩ := h
    rw [h1, h2, h3, h4]
    replace h1 := of_decide_eq_true h1
    replace h2 := of_decide_eq_true h2
    replace h3 := of_decide_eq_true h3
    replace h4 := of_decide_eq_false h4
    go_enter Try.func19, Try.ntmps19
    go_wp2_with fail
    go_ret
    exact ⟨by first | rfl | simp, B1.out⟩
  · obtain ⟨h1, h2, h3, h4, h5⟩ := h
    rw [h1, h2, h3, h4, h5]
    replace h1 := of_decide_eq_true h1
    replace h2 := of_decide_eq_true h2
    replace h3 := of_decide_eq_true h3
    replace h4 := of_decide_eq_true h4
    unfold l1 at h5
    go_enter Try.func19, Try.ntmps19
    go_wp2_with fail
    go_ret
    exact ⟨by first | rfl | simp, B1.out⟩
  · obtain ⟨h1, h2, h3, h4, h5, h6⟩ := h
    rw [h1, h2, h3, h4, h5, h6]
    replace h1 := of_decide_eq_true h1
    replace h2 := of_decide_eq_true h2
    replace h3 := of_decide_eq_true h3
    replace h4 := of_decide_eq_true h4
    unfold l1 at h5
    unfold l2 at h6
    go_enter Try.func19, Try.ntmps19
    go_wp2_with fail
    go_ret
    exact ⟨by first | rfl | simp, B1.out⟩
  · obtain ⟨h1, h2, h3, h4, h5, h6, h7⟩ := h
    rw [h1, h2, h3, h4, h5, h6, h7]
    replace h1 := of_decide_eq_true h1
    replace h2 := of_decide_eq_true h2
    replace h3 := of_decide_eq_true h3
    replace h4 := of_decide_eq_true h4
    unfold l1 at h5
    unfold l2 at h6
    unfold a1 at h7
    go_enter Try.func19, Try.ntmps19
    go_wp2_with fail
    go_ret
    exact ⟨by first | rfl | simp, B1.out⟩
  · obtain ⟨h1, h2, h3, h4, h5, h6, h7, h8⟩ := h
    rw [h1, h2, h3, h4, h5, h6, h7, h8]
    replace h1 := of_decide_eq_true h1
    replace h2 := of_decide_eq_true h2
    replace h3 := of_decide_eq_true h3
    replace h4 := of_decide_eq_true h4
    unfold l1 at h5
    unfold l2 at h6
    unfold a1 at h7
    unfold a2 at h8
    go_enter Try.func19, Try.ntmps19
    go_wp2_with fail
    go_ret
    exact ⟨by first | rfl | simp, B1.out⟩
  · obtain ⟨h1, h2, h3, h4, h5, h6, h7, h8⟩ := h
    rw [h1, h2, h3, h4, h5, h6, h7, h8]
    replace h1 := of_decide_eq_true h1
    replace h2 := of_decide_eq_true h2
    replace h3 := of_decide_eq_true h3
    replace h4 := of_decide_eq_true h4
    unfold l1 at h5
    unfold l2 at h6
    unfold a1 at h7
    unfold a2 at h8
    go_enter Try.func19, Try.ntmps19
    go_wp2_with fail
    go_ret
    exact ⟨by first | rfl | simp, B1.out⟩
theorem rmay_any (w : World) (q : Q) (hl : q.li < 18446744073709551616) (ha : q.al < 18446744073709551616) : Calls Try.prog 20 #[q.val] w fun e w' => e = .returned (.bool (mayB q)) ∧ Below w.heap.size w w' := by
  obtain ⟨mo, bb, li, al⟩ := q
  have hB : Hid (mayB ⟨mo, bb, li, al⟩ = (decide (1 ≤ mo) && decide (mo ≤ 256) && decide (1 ≤ bb) && decide (bb ≤ 1048576) && (l1 li && l2 li) && (a1 al && a2 al))) := hide (by rw [li_eq hl, al_eq ha]; rfl)
  have B1 := hide (box_below w (.cells #[.int .i64 mo, .int .i64 bb, .float .f64 li, .float .f64 al] 27))
  unfold Q.val
  simp only
  rw [hB.out]
  clear hB hl ha
  rcases may_split (decide (1 ≤ mo)) (decide (mo ≤ 256)) (decide (1 ≤ bb)) (decide (bb ≤ 1048576)) (l1 li) (l2 li) (a1 al) (a2 al) with h | h | h | h | h | h | h | h | h
  · have h1 := h
    rw [h1]
    clear h
    replace h1 := of_decide_eq_false h1
    go_enter Try.func20, Try.ntmps20
    go_wp2_with fail
    go_ret
    exact ⟨by first | rfl | simp, B1.out⟩
  · obtain ⟨h1, h2⟩ := h
    rw [h1, h2]
    replace h1 := of_decide_eq_true h1
    replace h2 := of_decide_eq_false h2
    go_enter Try.func20, Try.ntmps20
    go_wp2_with fail
    go_ret
    exact ⟨by first | rfl | simp, B1.out⟩
  · obtain ⟨h1, h2, h3⟩ := h
    rw [h1, h2, h3]
    replace h1 := of_decide_eq_true h1
    replace h2 := of_decide_eq_true h2
    replace h3 := of_decide_eq_false h3
    go_enter Try.func20, Try.ntmps20
    go_wp2_with fail
    go_ret
    exact ⟨by first | rfl | simp, B1.out⟩
  · obtain ⟨h1, h2, h3, h4⟩ := h
    rw [h1, h2, h3, h4]
    replace h1 := of_decide_eq_true h1
    replace h2 := of_decide_eq_true h2
    replace h3 := of_decide_eq_true h3
    replace h4 := of_decide_eq_false h4
    go_enter Try.func20, Try.ntmps20
    go_wp2_with fail
    go_ret
    exact ⟨by first | rfl | simp, B1.out⟩
  · obtain ⟨h1, h2, h3, h4, h5⟩ := h
    rw [h1, h2, h3, h4, h5]
    replace h1 := of_decide_eq_true h1
    replace h2 := of_decide_eq_true h2
    replace h3 := of_decide_eq_true h3
    replace h4 := of_decide_eq_true h4
    unfold l1 at h5
    go_enter Try.func20, Try.ntmps20
    go_wp2_with fail
    go_ret
    exact ⟨by first | rfl | simp, B1.out⟩
  · obtain ⟨h1, h2, h3, h4, h5, h6⟩ := h
    rw [h1, h2, h3, h4, h5, h6]
    replace h1 := of_decide_eq_true h1
    replace h2 := of_decide_eq_true h2
    replace h3 := of_decide_eq_true h3
    replace h4 := of_decide_eq_true h4
    unfold l1 at h5
    unfold l2 at h6
    go_enter Try.func20, Try.ntmps20
    go_wp2_with fail
    go_ret
    exact ⟨by first | rfl | simp, B1.out⟩
  · obtain ⟨h1, h2, h3, h4, h5, h6, h7⟩ := h
    rw [h1, h2, h3, h4, h5, h6, h7]
    replace h1 := of_decide_eq_true h1
    replace h2 := of_decide_eq_true h2
    replace h3 := of_decide_eq_true h3
    replace h4 := of_decide_eq_true h4
    unfold l1 at h5
    unfold l2 at h6
    unfold a1 at h7
    go_enter Try.func20, Try.ntmps20
    go_wp2_with fail
    go_ret
    exact ⟨by first | rfl | simp, B1.out⟩
  · obtain ⟨h1, h2, h3, h4, h5, h6, h7, h8⟩ := h
    rw [h1, h2, h3, h4, h5, h6, h7, h8]
    replace h1 := of_decide_eq_true h1
    replace h2 := of_decide_eq_true h2
    replace h3 := of_decide_eq_true h3
    replace h4 := of_decide_eq_true h4
    unfold l1 at h5
    unfold l2 at h6
    unfold a1 at h7
    unfold a2 at h8
    go_enter Try.func20, Try.ntmps20
    go_wp2_with fail
    go_ret
    exact ⟨by first | rfl | simp, B1.out⟩
  · obtain ⟨h1, h2, h3, h4, h5, h6, h7, h8⟩ := h
    rw [h1, h2, h3, h4, h5, h6, h7, h8]
    replace h1 := of_decide_eq_true h1
    replace h2 := of_decide_eq_true h2
    replace h3 := of_decide_eq_true h3
    replace h4 := of_decide_eq_true h4
    unfold l1 at h5
    unfold l2 at h6
    unfold a1 at h7
    unfold a2 at h8
    go_enter Try.func20, Try.ntmps20
    go_wp2_with fail
    go_ret
    exact ⟨by first | rfl | simp, B1.out⟩
end Go.Proofs.Ytikjgonlngcglaa.Pc

/-
  Pace: New, made, Smooth of plain numbers.
-/
namespace Go.Proofs.Ytikjgonlngcglaa.Pc
open Go.RowKit Rl Gg
set_option linter.unusedVariables false
set_option maxRecDepth 100000
theorem new_any (w : World) (q : Q) (hl : q.li < 18446744073709551616) (ha : q.al < 18446744073709551616) : Calls Try.prog 8 #[q.val] w fun e w' => Below w.heap.size w w' ∧ ((mayB q = false ∧ e = .returned (.tuple #[.pointer none, .int .i64 1])) ∨ (mayB q = true ∧ ∃ b, w.heap.size ≤ b ∧ e = .returned (.tuple #[.pointer (some ⟨b, 0, none⟩), .int .i64 0]) ∧ At 53 w' b q 4607182418800017408)) := by
  have hM := hide (fun u => may_any u q hl ha)
  obtain ⟨mo, bb, li, al⟩ := q
  unfold Q.val at *
  simp only at *
  have B1 := hide (box_below w (.cells #[.int .i64 mo, .int .i64 bb, .float .f64 li, .float .f64 al] 27))
  have N1 := heap_alloc_new w (.cells #[.int .i64 mo, .int .i64 bb, .float .f64 li, .float .f64 al] 27)
  obtain ⟨m, hm⟩ : ∃ m, Hid (mayB ⟨mo, bb, li, al⟩ = m) := ⟨_, rfl⟩
  rw [hm.out] at hM ⊢
  clear hl ha
  go_enter Try.func8, Try.ntmps8
  go_wp2_with fail
  go_at_call 19
  refine (hM.out _).mono ?_
  rintro e w1 ⟨rfl, b1⟩
  replace N1 := (But.of_below b1 fun _ => False).at N1 (fun c => c)
  replace B1 := hide (keepF B1.out b1)
  have c0 : w1.cell? ⟨w.heap.size, 0, none⟩ = some (.int .i64 mo) := by rw [cell_of N1]; rfl
  have c1 : w1.cell? ⟨w.heap.size, 1, none⟩ = some (.int .i64 bb) := by rw [cell_of N1]; rfl
  have c2 : w1.cell? ⟨w.heap.size, 2, none⟩ = some (.float .f64 li) := by rw [cell_of N1]; rfl
  have c3 : w1.cell? ⟨w.heap.size, 3, none⟩ = some (.float .f64 al) := by rw [cell_of N1]; rfl
  clear N1 b1
  cases m
  · go_wp2_with fail
    go_ret2
    exact ⟨B1.out, rfl⟩
  · have B2 := hide (box_below w1 (.cells #[.int .i64 mo, .int .i64 bb, .float .f64 li, .float .f64 al, .float .f64 4607182418800017408] 53))
    have N2 := hide (heap_alloc_new w1 (.cells #[.int .i64 mo, .int .i64 bb, .float .f64 li, .float .f64 al, .float .f64 4607182418800017408] 53))
    go_wp2_with fail
    go_ret2
    exact ⟨keepF B1.out B2.out, _, B1.out.size, rfl, N2.out⟩
theorem rnew_any (w : World) (q : Q) (hl : q.li < 18446744073709551616) (ha : q.al < 18446744073709551616) : Calls Try.prog 9 #[q.val] w fun e w' => Below w.heap.size w w' ∧ ((mayB q = false ∧ e = .returned (.tuple #[.pointer none, .int .i64 1])) ∨ (mayB q = true ∧ ∃ b, w.heap.size ≤ b ∧ e = .returned (.tuple #[.pointer (some ⟨b, 0, none⟩), .int .i64 0]) ∧ At 55 w' b q 4607182418800017408)) := by
  have hM := hide (fun u => rmay_any u q hl ha)
  obtain ⟨mo, bb, li, al⟩ := q
  unfold Q.val at *
  simp only at *
  have B1 := hide (box_below w (.cells #[.int .i64 mo, .int .i64 bb, .float .f64 li, .float .f64 al] 27))
  have N1 := heap_alloc_new w (.cells #[.int .i64 mo, .int .i64 bb, .float .f64 li, .float .f64 al] 27)
  obtain ⟨m, hm⟩ : ∃ m, Hid (mayB ⟨mo, bb, li, al⟩ = m) := ⟨_, rfl⟩
  rw [hm.out] at hM ⊢
  clear hl ha
  go_enter Try.func9, Try.ntmps9
  go_wp2_with fail
  go_at_call 20
  refine (hM.out _).mono ?_
  rintro e w1 ⟨rfl, b1⟩
  replace N1 := (But.of_below b1 fun _ => False).at N1 (fun c => c)
  replace B1 := hide (keepF B1.out b1)
  have c0 : w1.cell? ⟨w.heap.size, 0, none⟩ = some (.int .i64 mo) := by rw [cell_of N1]; rfl
  have c1 : w1.cell? ⟨w.heap.size, 1, none⟩ = some (.int .i64 bb) := by rw [cell_of N1]; rfl
  have c2 : w1.cell? ⟨w.heap.size, 2, none⟩ = some (.float .f64 li) := by rw [cell_of N1]; rfl
  have c3 : w1.cell? ⟨w.heap.size, 3, none⟩ = some (.float .f64 al) := by rw [cell_of N1]; rfl
  clear N1 b1
  cases m
  · go_wp2_with fail
    go_ret2
    exact ⟨B1.out, rfl⟩
  · have B2 := hide (box_below w1 (.cells #[.int .i64 mo, .int .i64 bb, .float .f64 li, .float .f64 al, .float .f64 4607182418800017408] 55))
    have N2 := hide (heap_alloc_new w1 (.cells #[.int .i64 mo, .int .i64 bb, .float .f64 li, .float .f64 al, .float .f64 4607182418800017408] 55))
    go_wp2_with fail
    go_ret2
    exact ⟨keepF B1.out B2.out, _, B1.out.size, rfl, N2.out⟩
theorem made_any {w : World} {b : Nat} {q : Q} {s : Nat} (h : At 53 w b q s) (hm : 1 ≤ q.mo) : Calls Try.prog 21 #[.pointer (some ⟨b, 0, none⟩)] w fun e w' => e = .returned (.bool true) ∧ w' = w := by
  obtain ⟨c0, c1, c2, c3, c4⟩ := h.cells
  have h1 : (0 : Int) < q.mo := by omega
  clear h
  go_enter Try.func21, Try.ntmps21
  go_wp2_with fail
  go_ret
  exact ⟨rfl, rfl⟩
theorem made_nil (w : World) : Calls Try.prog 21 #[.pointer none] w fun e w' => e = .returned (.bool false) ∧ w' = w := by
  go_enter Try.func21, Try.ntmps21
  go_wp2_with fail
  go_ret
  exact ⟨rfl, rfl⟩
theorem sub_run {x y r : Nat} (h : Ieee.double.sub x y = some r) (w : World) : (binOp .sub 25 (.float .f64 x) (.float .f64 y)).run Try.prog w = .ok (.float .f64 r) w := by
  have h2 : FloatKind.f64.format.sub x y = some r := h
  simp [binOp, Op.floatArith, h2]
theorem add_run {x y r : Nat} (h : Ieee.double.add x y = some r) (w : World) : (binOp .add 25 (.float .f64 x) (.float .f64 y)).run Try.prog w = .ok (.float .f64 r) w := by
  have h2 : FloatKind.f64.format.add x y = some r := h
  simp [binOp, Op.floatArith, h2]
theorem mul_run {x y r : Nat} (h : Ieee.double.mul x y = some r) (w : World) : (binOp .mul 25 (.float .f64 x) (.float .f64 y)).run Try.prog w = .ok (.float .f64 r) w := by
  have h2 : FloatKind.f64.format.mul x y = some r := h
  simp [binOp, Op.floatArith, h2]
theorem smooth_same (w : World) {s n a : Nat} (hs : s ≤ b512) (hn : n ≤ 256) (ha : alB a = true) : Calls Try.prog 22 #[.float .f64 s, .float .f64 (nf n), .float .f64 a] w fun e w' => e = .returned (.tuple #[.float .f64 (smB s (nf n) a), .int .i64 0]) ∧ w' = w := by
  have ha2 : 0 < a ∧ a ≤ 4607182418800017408 := of_decide_eq_true ha
  obtain ⟨d, m, t, e1, e2, e3, ht, es⟩ := sm_runs hs hn ha2.2
  rw [es]
  have r1 := fun u => sub_run e1 u
  have r2 := fun u => mul_run e2 u
  have r3 := fun u => add_run e3 u
  have hx := nf_256 hn
  generalize nf n = x at *
  unfold b512 at *
  have hN := fun u => mathIsNaN_any u x (by omega)
  have hM := fun u => mathIsNaN_any u s (by omega)
  have hD := fun u => canon_any u t (by omega)
  rw [nn (by omega)] at hN hM
  rw [canon_fin (by omega)] at hD
  have h1 : (ordZ a == some .gt) = true ∧ (ordO a == some .lt || ordO a == some .eq) = true := by
    rcases al_cases (a := a) (by omega) with ⟨h0, h1, h2⟩ | ⟨h0, h1⟩
    · exact ⟨h1, h2⟩
    · rw [ha] at h0; cases h0
  obtain ⟨h1, h2⟩ := h1
  unfold ordZ ordO at *
  clear e1 e2 e3 ht es hx ha ha2 hs hn
  go_enter Try.func22, Try.ntmps22
  go_wp2_with (first | (go_at_call 18; first | (refine (hN _).mono ?_; rintro e w' ⟨rfl, hw⟩; rw [hw]; clear hw w') | (refine (hM _).mono ?_; rintro e w' ⟨rfl, hw⟩; rw [hw]; clear hw w')) | (go_at_call 28; refine (hD _).mono ?_; rintro e w' ⟨rfl, hw⟩; rw [hw]; clear hw w'))
  go_ret2
  exact ⟨rfl, rfl⟩
theorem rsmooth_same (w : World) {s n a : Nat} (hs : s ≤ b512) (hn : n ≤ 256) (ha : alB a = true) : Calls Try.prog 26 #[.float .f64 s, .float .f64 (nf n), .float .f64 a] w fun e w' => e = .returned (.tuple #[.float .f64 (smB s (nf n) a), .int .i64 0]) ∧ w' = w := by
  have ha2 : 0 < a ∧ a ≤ 4607182418800017408 := of_decide_eq_true ha
  obtain ⟨d, m, t, e1, e2, e3, ht, es⟩ := sm_runs hs hn ha2.2
  rw [es]
  have r1 := fun u => sub_run e1 u
  have r2 := fun u => mul_run e2 u
  have r3 := fun u => add_run e3 u
  have hx := nf_256 hn
  generalize nf n = x at *
  unfold b512 at *
  have hN := fun u => refNaN_any u x (by omega)
  have hM := fun u => refNaN_any u s (by omega)
  have hD := fun u => refCanon_any u t (by omega)
  rw [nn (by omega)] at hN hM
  rw [canon_fin (by omega)] at hD
  have h1 : (ordZ a == some .gt) = true ∧ (ordO a == some .lt || ordO a == some .eq) = true := by
    rcases al_cases (a := a) (by omega) with ⟨h0, h1, h2⟩ | ⟨h0, h1⟩
    · exact ⟨h1, h2⟩
    · rw [ha] at h0; cases h0
  obtain ⟨h1, h2⟩ := h1
  unfold ordZ ordO at *
  clear e1 e2 e3 ht es hx ha ha2 hs hn
  go_enter Try.func26, Try.ntmps26
  go_wp2_with (first | (go_at_call 31; first | (refine (hN _).mono ?_; rintro e w' ⟨rfl, hw⟩; rw [hw]; clear hw w') | (refine (hM _).mono ?_; rintro e w' ⟨rfl, hw⟩; rw [hw]; clear hw w')) | (go_at_call 32; refine (hD _).mono ?_; rintro e w' ⟨rfl, hw⟩; rw [hw]; clear hw w'))
  go_ret2
  exact ⟨rfl, rfl⟩
end Go.Proofs.Ytikjgonlngcglaa.Pc

/-
  Pace: Seen, Want.
-/
namespace Go.Proofs.Ytikjgonlngcglaa.Pc
open Go.RowKit Rl Gg
set_option linter.unusedVariables false
set_option maxRecDepth 100000
/-- What is wanted behind a batch of n. -/
def seenF (q : Q) (s : Nat) (n : Int) : Nat := if 1 ≤ n ∧ n ≤ q.mo then smB s (nf n.toNat) q.al else s
structure Ok (q : Q) (s : Nat) : Prop where
  m1 : 1 ≤ q.mo
  m2 : q.mo ≤ 256
  b1 : 1 ≤ q.by'
  b2 : q.by' ≤ 1048576
  l : liB q.li = true
  a : alB q.al = true
  s : s ≤ b512
theorem Ok.new {q : Q} (h : mayB q = true) : Ok q 4607182418800017408 := by
  unfold mayB at h
  simp only [Bool.and_eq_true, decide_eq_true_eq] at h
  obtain ⟨⟨⟨⟨⟨h1, h2⟩, h3⟩, h4⟩, h5⟩, h6⟩ := h
  exact ⟨h1, h2, h3, h4, h5, h6, by unfold b512; omega⟩
theorem Ok.seen {q : Q} {s : Nat} (h : Ok q s) (n : Int) : Ok q (seenF q s n) := by
  refine ⟨h.m1, h.m2, h.b1, h.b2, h.l, h.a, ?_⟩
  unfold seenF
  split
  · have ha2 : 0 < q.al ∧ q.al ≤ 4607182418800017408 := of_decide_eq_true h.a
    obtain ⟨d, m, t, e1, e2, e3, ht, es⟩ := sm_runs h.s (n := n.toNat) (by have := h.m2; omega) ha2.2
    rw [es]; exact ht
  · exact h.s
theorem conv_int (n : Int) (w : World) : (convert 3 25 (.int .i64 n)).run Try.prog w = .ok (.float .f64 (FloatKind.f64.nearest n)) w := by
  simp [convert, Conv.intToFloat]
theorem but_set (w : World) (b j : Nat) (x : Value) : But (fun k => k = b) w (w.setCell ⟨b, j, none⟩ x) := But.of_grownBy (grown_setCell w b j x) fun k e => by cases e; rfl
theorem but_drew (w : World) (X : Nat → Prop) (k : Nat) : But X w (w.drewN k) := But.of_below (below_drewN (Below.refl _ _) k) _
theorem seen_no (w : World) (n : Int) : Calls Try.prog 10 #[.pointer none, .int .i64 n] w fun e w' => e = .returned (.tuple #[]) ∧ w' = w := by
  go_enter Try.func10, Try.ntmps10
  go_wp2_with (go_at_call 21; refine (made_nil _).mono ?_; rintro e w' ⟨rfl, hw⟩; rw [hw]; clear hw w')
  go_returns
  exact ⟨rfl, rfl⟩
theorem seen_any {w : World} {b : Nat} {q : Q} {s : Nat} (h : At 53 w b q s) (ok : Ok q s) (n : Int) : Calls Try.prog 10 #[.pointer (some ⟨b, 0, none⟩), .int .i64 n] w fun e w' => e = .returned (.tuple #[]) ∧ At 53 w' b q (seenF q s n) ∧ But (fun k => k = b) w w' := by
  have hM := made_any h ok.m1
  obtain ⟨c0, c1, c2, c3, c4⟩ := h.cells
  have HA := hide h
  have hm2 := ok.m2
  by_cases h1 : 1 ≤ n
  · by_cases h2 : n ≤ q.mo
    · have hS := hide (fun u => smooth_same u ok.s (n := n.toNat) (by omega) ok.a)
      have hr : Hid (seenF q s n = smB s (nf n.toNat) q.al) := hide (by unfold seenF; rw [if_pos ⟨h1, h2⟩])
      have hcv : ∀ u, (convert 3 25 (.int .i64 n)).run Try.prog u = .ok (.float .f64 (nf n.toNat)) u := fun u => by rw [conv_int]; unfold nf; rw [Int.toNat_of_nonneg (by omega)]
      rw [hr.out]
      generalize smB s (nf n.toNat) q.al = t at *
      generalize nf n.toNat = x at *
      have k1 : ¬ n < 1 := by omega
      have k2 : ¬ q.mo < n := by omega
      clear h ok hr
      go_enter Try.func10, Try.ntmps10
      go_upto_region 1 with (go_at_call 21; refine hM.mono ?_; rintro e w' ⟨rfl, hw⟩; rw [hw]; clear hw w')
      go_quiet (first | (go_at_call 22; exact Calls.quiet_of_same (hS.out _)))
      obtain ⟨w9, hw9⟩ : ∃ w9, Hid (w.drewN nq = w9) := ⟨_, rfl⟩
      have A9 := HA.out.below (below_drewN (Below.refl _ w) nq)
      have D9 := but_drew w (fun k => k = b) nq
      rw [hw9.out] at A9 D9 ⊢
      have S9 := hide (A9.set t)
      have F9 := A9.frozen 4
      obtain ⟨d0, d1, d2, d3, d4⟩ := A9.cells
      replace D9 := hide (D9.trans (but_set w9 b 4 (.float .f64 t)))
      clear A9 HA c0 c1 c2 c3 c4 hM hS
      have sf : ∀ (W : World) (a : Addr) (x : Nat), (store a (.float .f64 x)).run Try.prog W = stored Try.prog W a (.float .f64 x) .plain := fun W a x => run_store _ W a _ _ rfl
      go_wp2_with fail
      go_returns
      exact ⟨rfl, S9.out, D9.out⟩
    · have hr : seenF q s n = s := by unfold seenF; rw [if_neg (by omega)]
      rw [hr]
      have k1 : ¬ n < 1 := by omega
      have k2 : q.mo < n := by omega
      clear h ok hr
      go_enter Try.func10, Try.ntmps10
      go_wp2_with (go_at_call 21; refine hM.mono ?_; rintro e w' ⟨rfl, hw⟩; rw [hw]; clear hw w')
      go_returns
      exact ⟨rfl, HA.out, But.refl _ _⟩
  · have hr : seenF q s n = s := by unfold seenF; rw [if_neg (by omega)]
    rw [hr]
    have k1 : n < 1 := by omega
    clear h ok hr
    go_enter Try.func10, Try.ntmps10
    go_wp2_with (go_at_call 21; refine hM.mono ?_; rintro e w' ⟨rfl, hw⟩; rw [hw]; clear hw w')
    go_returns
    exact ⟨rfl, HA.out, But.refl _ _⟩
end Go.Proofs.Ytikjgonlngcglaa.Pc

