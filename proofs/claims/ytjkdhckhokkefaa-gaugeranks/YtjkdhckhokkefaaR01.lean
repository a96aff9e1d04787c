/-
  Plain facts for the walks over package wire: lists of bytes, where a slice's bytes lie in memory. No program is named here.
-/
import Derived.WalkKit
import Derived.WalkSpells
import Derived.WalkLawsBesides
import Derived.Deep.QuietTactic
import Derived.BigQuiet
import Derived.Laws.AppendOwnNone
import Derived.Test.YtjkdhckhokkefaaProg
import Derived.Lib.SlBytesConst
import Derived.Test.YtjkdhckhokkefaaRows
import Derived.ProofKit
import Derived.OpenShut
import Derived.SizedLaws
import Derived.BigRegion
import Derived.Handy
import Derived.Deep.Cut
import Derived.Deep.RegionHeld3
import Derived.Lib.BitFns
import Derived.Deep.Slices
import Derived.RangeFuncNested
import Derived.RangeFuncLeaves
import Derived.Below
import Derived.Deep.AppendLies
import Derived.Deep.RegionHeld
import Derived.Maps.AppendAt
import Derived.OwnWalk
import Derived.Lib.AppendZeros
namespace Go.Proofs.Ytjkdhckhokkefaa
open Go.RowKit
/-- Bytes l lie from address ao on (nothing is said of ao where l is empty). -/
def Rd (w : World) (ao : Option Addr) (l : List UInt8) : Prop :=
  ∀ i (h : i < l.length), ∃ b off, ao = some ⟨b, off, none⟩ ∧ w.cell? ⟨b, off + i, none⟩ = some (.int .u8 (l[i].toNat : Int))
theorem Rd.at {w : World} {ao : Option Addr} {l : List UInt8} (h : Rd w ao l) (hl : 0 < l.length) :
    ∃ b off, ao = some ⟨b, off, none⟩ ∧ ∀ i (h : i < l.length), w.cell? ⟨b, off + i, none⟩ = some (.int .u8 (l[i].toNat : Int)) := by
  obtain ⟨b, off, e, _⟩ := h 0 hl
  refine ⟨b, off, e, fun i hi => ?_⟩
  obtain ⟨b', off', e', hc⟩ := h i hi
  rw [e] at e'
  simp only [Option.some.injEq, Addr.mk.injEq] at e'
  obtain ⟨rfl, rfl, _⟩ := e'
  exact hc
/-- The world has only drawn. -/
def Qt (w w' : World) : Prop := ∃ k, w' = w.drewN k
theorem Qt.refl (w : World) : Qt w w := ⟨0, rfl⟩
theorem Qt.drewN {w u : World} (h : Qt w u) (n : Nat) : Qt w (u.drewN n) := by
  obtain ⟨k, rfl⟩ := h; exact ⟨k + n, by simp⟩
theorem Qt.trans {w u v : World} (h : Qt w u) (g : Qt u v) : Qt w v := by
  obtain ⟨n, rfl⟩ := g; exact h.drewN n
theorem Qt.cell {w u : World} (h : Qt w u) (a : Addr) : u.cell? a = w.cell? a := by obtain ⟨k, rfl⟩ := h; rfl
theorem Qt.below {w u : World} (h : Qt w u) (B : Nat) : Below B w u := by
  obtain ⟨k, rfl⟩ := h; exact below_drewN (Below.refl _ _) k
theorem Qt.size {w u : World} (h : Qt w u) : u.heap.size = w.heap.size := by obtain ⟨k, rfl⟩ := h; rfl
end Go.Proofs.Ytjkdhckhokkefaa

/-
  The forms of package wire as plain functions on lists of bytes: the varint's form, and what it is worth.
-/
namespace Go.Proofs.Ytjkdhckhokkefaa
def encF : Nat → Nat → List UInt8
  | 0, _ => []
  | f + 1, n => if n < 128 then [UInt8.ofNat n] else UInt8.ofNat (n % 128 + 128) :: encF f (n / 128)
/-- The varint of n (below 2^64). -/
def enc (n : Nat) : List UInt8 := encF 10 n
/-- A byte as the model holds it. -/
def bval (c : UInt8) : Value := .int .u8 (c.toNat : Int)
def bvals (l : List UInt8) : List Value := l.map bval
end Go.Proofs.Ytjkdhckhokkefaa

/-
  A slice of bytes as a list of bytes: Sl; what keeps it; append of such a slice onto one that the call made. No program is named here.
-/
namespace Go.Proofs.Ytjkdhckhokkefaa
open Go.RowKit
/-- The value v is a slice whose bytes are l. -/
def Sl (w : World) (v : Value) (l : List UInt8) : Prop :=
  ∃ ao cap, v = .slice ao l.length cap ∧ (ao = none → l = [] ∧ cap = 0) ∧ l.length ≤ cap ∧ cap ≤ maxLen ∧ Rd w ao l
theorem lt_of_cell {w : World} {a : Addr} {v : Value} (h : w.cell? a = some v) : a.block < w.heap.size := by
  unfold World.cell? at h
  by_cases hb : a.block < w.heap.size
  · exact hb
  · rw [Array.getElem?_eq_none (by omega)] at h; simp at h
theorem bvals_get {l : List UInt8} {i : Nat} (h : i < l.length) : (bvals l)[i]? = some (.int .u8 (l[i].toNat : Int)) := by
  simp [bvals, bval, h]
theorem Sl.of_owns {w : World} {base e : Nat} {v : Value} {l : List UInt8} (h : w.ownsRow base e 1 v l.length (bvals l)) : Sl w v l := by
  have h0 := h
  obtain ⟨h1, h2⟩ := h
  rcases h2 with ⟨rfl, hn⟩ | ⟨g, cap, cur, rfl, hg, hh, hn, hm, hs, ht⟩
  · obtain rfl := List.length_eq_zero_iff.1 hn
    exact ⟨none, 0, rfl, fun _ => ⟨rfl, rfl⟩, Nat.le_refl _, Nat.zero_le _, fun i hi => by simp at hi⟩
  · refine ⟨some ⟨g, 0, none⟩, cap, rfl, fun e => by simp at e, hn, hm, fun i hi => ⟨g, 0, rfl, ?_⟩⟩
    rw [Nat.zero_add, h0.cellAt i (by omega), bvals_get hi]
theorem Sl.nil (w : World) : Sl w (.slice none 0 0) [] := ⟨none, 0, rfl, fun _ => ⟨rfl, rfl⟩, Nat.le_refl _, Nat.zero_le _, fun i hi => by simp at hi⟩
end Go.Proofs.Ytjkdhckhokkefaa

/-
  Plain facts for the walks of a seat that has none of wire's: literals of bytes, what a call may have turned. No function is named here.
-/
namespace Go.Proofs.Ytjkdhckhokkefaa
open Go.RowKit
theorem addr_add (b off k : Nat) : (⟨b, off, none⟩ : Addr).add k = ⟨b, off + k, none⟩ := by
  unfold Addr.add; split <;> simp_all
theorem Qt.grown {w w' : World} (h : Qt w w') (row : Option Nat) : w.grownBy w' row := by
  obtain ⟨k, rfl⟩ := h; exact ⟨rfl, rfl, rfl, Nat.le_refl _, fun _ _ _ => rfl⟩
theorem grown_setCell (w : World) (rb o : Nat) (u : Value) : w.grownBy (w.setCell ⟨rb, o, none⟩ u) (some rb) :=
  ⟨rfl, rfl, rfl, by simp, fun k _ hk => heap_setCell_other w ⟨rb, o, none⟩ k u (fun e => hk (by simp [e]))⟩
theorem heap_lt {w : World} {k : Nat} {o : Obj} (h : w.heap[k]? = some o) : k < w.heap.size := by
  by_cases hb : k < w.heap.size
  · exact hb
  · rw [Array.getElem?_eq_none (by omega)] at h; simp at h
theorem box_below (w : World) (o : Obj) : Below w.heap.size w (w.alloc o) := (Below.refl _ _).alloc (Nat.le_refl _) _
end Go.Proofs.Ytjkdhckhokkefaa

/-
  An argument of type []byte, opened: the bytes that it holds, and that they lie within the reach.
-/
namespace Go.Proofs.Ytjkdhckhokkefaa
open Go.ChangeShapes Go.WideShapes Go.ChangeAt Go.RowKit
theorem bytesU8 : Try.prog.bytesOf 5 = 1 := by kernel_rfl
theorem cellsU8 : Try.prog.cellsOf 5 = 1 := by kernel_rfl
theorem toByte {n : Int} (h : (Lit.int .u8 n).wf = true) : ((UInt8.ofNat n.toNat).toNat : Int) = n := by
  have hx : 0 ≤ n ∧ n ≤ 255 := by simpa [Lit.wf, IntKind.min, IntKind.max, IntKind.signed, IntKind.bits] using h
  rw [UInt8.toNat_ofNat_of_lt' (show n.toNat < 256 by omega)]; omega
/-- A slice of bytes that was read. -/
theorem open_bytes {H : Type} {enc : TypeId × Value → H} {w : World} {base : Nat} {spare : Nat → Bool} {held : Bool} {fuel : Nat} {v : Value} {x : DataW H × List MemPlace}
    (h : DataW.trod enc Try.prog w base spare held fuel 57 [v] = some x) :
    ∃ l, Sl w v l ∧ ((x.1 = .nil ∧ l = []) ∨ ∃ elems sp, x.1 = .slice elems sp ∧ elems.length = l.length) := by
  rcases open_ints Try.underlying57 Try.underlying5 cellsU8 h with ⟨hcs, hx⟩ | ⟨a, len, cap, zs, hcs, _, hl, hm, hz, hx, hcell, hwz⟩
  · simp at hcs
    subst hcs hx
    exact ⟨[], Sl.nil _, .inl ⟨rfl, rfl⟩⟩
  · simp at hcs
    subst hcs hx
    have hzl : len ≤ zs.length := by split at hz <;> omega
    have hlen : ((zs.take len).map fun n => UInt8.ofNat n.toNat).length = len := by simp; omega
    refine ⟨(zs.take len).map fun n => UInt8.ofNat n.toNat, ⟨some a, cap, by rw [hlen], fun e => by simp at e, by omega, hm, ?_⟩, .inr ⟨_, _, rfl, by simp [lits]⟩⟩
    intro i hi
    rw [hlen] at hi
    obtain ⟨b, off, rfl, hc⟩ := ints_at hcell (by omega)
    refine ⟨b, off, rfl, ?_⟩
    have hi2 : i < zs.length := by omega
    rw [hc i hi2]
    simp only [List.getElem_map, List.getElem_take]
    rw [toByte (hwz _ (List.getElem_mem _))]
    simp [List.getD, hi2]
theorem bytes_reach {H : Type} {ts : List TypeId} {ds : List (DataW H)} (hsz : (DataW.weightsEach Try.prog ts ds).all (· ≤ reachBytes) = true) {j : Nat} {d : DataW H} {l : List UInt8} (ht : ts[j]? = some 57) (hd : ds[j]? = some d)
    (h : (d = .nil ∧ l = []) ∨ ∃ elems sp, d = .slice elems sp ∧ elems.length = l.length) : l.length ≤ 140737488351232 := by
  rcases h with ⟨_, rfl⟩ | ⟨elems, sp, rfl, he⟩
  · simp
  · have := sized_slice hsz ht hd Try.underlying57
    rw [bytesU8] at this
    simp only [reachBytes] at this
    omega
end Go.Proofs.Ytjkdhckhokkefaa

/-
  Whole numbers of many words of 64 bits, the lowest first. No program is named here.
-/
namespace Go.Proofs.Ytjkdhckhokkefaa.Rl
open Go.RowKit
def val : List Nat → Nat
  | [] => 0
  | d :: r => d + 18446744073709551616 * val r
def Ws (ds : List Nat) : Prop := ∀ d ∈ ds, d < 18446744073709551616
theorem Ws.set {ds : List Nat} (h : Ws ds) (i x : Nat) (hx : x < 18446744073709551616) : Ws (ds.set i x) := by
  intro d hd
  rcases List.mem_or_eq_of_mem_set hd with hd | rfl
  · exact h d hd
  · exact hx
theorem Ws.take {ds : List Nat} (h : Ws ds) (i : Nat) : Ws (ds.take i) := fun d hd => h d (List.mem_of_mem_take hd)
theorem Ws.drop {ds : List Nat} (h : Ws ds) (i : Nat) : Ws (ds.drop i) := fun d hd => h d (List.mem_of_mem_drop hd)
end Go.Proofs.Ytjkdhckhokkefaa.Rl

/-
  Package real, number by number: what its functions of one and of two numbers answer, by the bits; the document's own answers are the same.
-/
namespace Go.Proofs.Ytjkdhckhokkefaa.Rl
open Go.RowKit
set_option maxRecDepth 100000
theorem bits_run (b : Nat) (w : World) : (callFunc 45 #[.float .f64 b]).run Try.prog w = .ok (.value (.int .u64 b)) w := by
  rw [run_callFunc_extern Try.func45 (by kernel_rfl) (by kernel_rfl) (by kernel_rfl) (e := Extern.MathFloatBits.float64bits) (by kernel_rfl)]
  rfl
theorem of_run (n : Int) (w : World) : (callFunc 21 #[.int .u64 n]).run Try.prog w = .ok (.value (.float .f64 n.toNat)) w := by
  rw [run_callFunc_extern Try.func21 (by kernel_rfl) (by kernel_rfl) (by kernel_rfl) (e := Extern.MathFloatBits.float64frombits) (by kernel_rfl)]
  rfl
theorem ofInt64 (a : Nat) (ha : a < 18446744073709551616) : (BitVec.ofInt 64 (a : Int)).toNat = a := by
  rw [BitVec.ofInt_natCast, BitVec.toNat_ofNat]; exact Nat.mod_eq_of_lt (by omega)
theorem andNot_nat (a b : Nat) (ha : a < 18446744073709551616) (hb : b < 18446744073709551616) :
    bits .andNot .u64 (a : Int) (b : Int) = ((a &&& (18446744073709551615 - b) : Nat) : Int) := by
  have hx : a &&& (18446744073709551615 - b) < 2 ^ 64 := Nat.and_lt_two_pow _ (by omega)
  show IntKind.u64.wrap ((BitVec.ofInt 64 (a : Int) &&& ~~~ BitVec.ofInt 64 (b : Int)).toNat : Int) = _
  rw [BitVec.toNat_and, BitVec.toNat_not, ofInt64 a ha, ofInt64 b hb, IntKind.wrap_u64]
  have : 2 ^ 64 - 1 - b = 18446744073709551615 - b := by omega
  rw [this]; omega
theorem and_low (a : Nat) (k : Nat) : a &&& (2 ^ k - 1) = a % 2 ^ k := Nat.and_two_pow_sub_one_eq_mod a k
theorem andNot_top (b : Nat) (hb : b < 18446744073709551616) : bits .andNot .u64 (b : Int) 9223372036854775808 = ((b % 9223372036854775808 : Nat) : Int) := by
  have h := andNot_nat b 9223372036854775808 hb (by omega)
  rw [show 18446744073709551615 - 9223372036854775808 = 2 ^ 63 - 1 by omega, and_low] at h
  exact h
theorem and_top (b : Nat) (hb : b < 18446744073709551616) : bits .and .u64 (b : Int) 9223372036854775808 = if b < 9223372036854775808 then 0 else 9223372036854775808 := by
  have h := bits_and_u64_nat b 9223372036854775808 hb (by omega)
  have e : b &&& 9223372036854775808 = if b < 9223372036854775808 then 0 else 9223372036854775808 := by
    rw [show 9223372036854775808 = 2 ^ 63 by omega]
    apply Nat.eq_of_testBit_eq
    intro i
    rw [Nat.testBit_and, Nat.testBit_two_pow]
    by_cases hi : 63 = i
    · subst hi
      by_cases hc : b < 2 ^ 63
      · rw [if_pos hc, Nat.testBit_lt_two_pow hc]; rfl
      · rw [if_neg hc]
        have : b.testBit 63 = true := by
          rw [Nat.testBit_eq_decide_div_mod_eq]; simp; omega
        rw [this]; rfl
    · rw [show decide (63 = i) = false by simpa using hi, Bool.and_false]
      split
      · rw [Nat.zero_testBit]
      · rw [Nat.testBit_two_pow]; simp [hi]
  rw [e] at h
  rw [show (9223372036854775808 : Int) = ((9223372036854775808 : Nat) : Int) by rfl, h]
  split <;> rfl
theorem or_top (b : Nat) (hb : b < 9223372036854775808) : bits .or .u64 (b : Int) 9223372036854775808 = ((b + 9223372036854775808 : Nat) : Int) := by
  have h := bits_or_u64_nat b 9223372036854775808 (by omega) (by omega)
  rw [Nat.or_comm, show 9223372036854775808 = 2 ^ 63 * 1 by omega, ← Nat.two_pow_add_eq_or_of_lt (by omega)] at h
  rw [show (9223372036854775808 : Int) = ((2 ^ 63 * 1 : Nat) : Int) by rfl, h]
  omega
theorem xor_all (b : Nat) (hb : b < 18446744073709551616) : bits .xor .u64 IntKind.u64.max (b : Int) = ((18446744073709551615 - b : Nat) : Int) := by
  show IntKind.u64.wrap ((BitVec.ofInt 64 18446744073709551615 ^^^ BitVec.ofInt 64 (b : Int)).toNat : Int) = _
  rw [show BitVec.ofInt 64 18446744073709551615 = BitVec.allOnes 64 by decide, BitVec.allOnes_xor, BitVec.toNat_not, ofInt64 b hb, IntKind.wrap_u64]
  omega
def nanB (b : Nat) : Bool := decide (b % 9223372036854775808 > 9218868437227405312)
def canonB (b : Nat) : Nat := if nanB b then 9221120237041090561 else b
def keyB (b : Nat) : Nat := if nanB b then 18446744073709551615 else if b < 9223372036854775808 then b + 9223372036854775808 else 18446744073709551615 - b
def rankB (m : Nat) : Int := if m = 0 then 0 else if m < 4503599627370496 then 1 else if m < 9218868437227405312 then 2 else 3
def classB (b : Nat) : Int := if nanB b then 1 else if b < 9223372036854775808 then 6 + rankB b else 5 - rankB (b - 9223372036854775808)
theorem isNaN_any (w : World) (b : Nat) (hb : b < 18446744073709551616) :
    Calls Try.prog 55 #[.float .f64 b] w fun e w' => e = .returned (.bool (nanB b)) ∧ w' = w := by
  have k1 := bits_run
  have k2 := andNot_top b hb
  go_enter Try.func55, Try.ntmps55
  go_wp2
  go_ret
  refine ⟨congrArg (fun x => Ending.returned (Value.bool x)) (?_ : decide _ = decide _), rfl⟩
  apply decide_eq_decide.2; omega
theorem nan_any (w : World) :
    Calls Try.prog 56 #[] w fun e w' => e = .returned (.float .f64 9221120237041090561) ∧ w' = w := by
  have k2 := of_run
  go_enter Try.func56, Try.ntmps56
  go_wp2
  go_ret
  exact ⟨rfl, rfl⟩
theorem canon_any (w : World) (b : Nat) (hb : b < 18446744073709551616) :
    Calls Try.prog 48 #[.float .f64 b] w fun e w' => e = .returned (.float .f64 (canonB b)) ∧ w' = w := by
  go_enter Try.func48, Try.ntmps48
  go_wp2_with fail
  refine (isNaN_any _ b hb).mono ?_
  rintro e w1 ⟨rfl, rfl⟩
  cases hn : nanB b with
  | true =>
    go_wp2_with fail
    refine (nan_any _).mono ?_
    rintro e w2 ⟨rfl, rfl⟩
    go_wp2
    go_ret
    exact ⟨by rw [canonB, hn]; rfl, rfl⟩
  | false =>
    go_wp2
    go_ret
    exact ⟨by rw [canonB, hn]; rfl, rfl⟩
theorem key_any (w : World) (b : Nat) (hb : b < 18446744073709551616) :
    Calls Try.prog 51 #[.float .f64 b] w fun e w' => e = .returned (.int .u64 (keyB b)) ∧ w' = w := by
  have k1 := bits_run
  have k2 := and_top b hb
  have k3 := xor_all b hb
  go_enter Try.func51, Try.ntmps51
  go_wp2_with fail
  refine (isNaN_any _ b hb).mono ?_
  rintro e w1 ⟨rfl, rfl⟩
  cases hn : nanB b with
  | true =>
    go_wp2
    go_ret
    exact ⟨by rw [keyB, hn]; rfl, rfl⟩
  | false =>
    by_cases hc : b < 9223372036854775808
    · rw [if_pos hc] at k2
      have k4 := or_top b hc
      go_wp2
      go_ret
      exact ⟨by rw [keyB, hn, if_pos hc]; rfl, rfl⟩
    · rw [if_neg hc] at k2
      go_wp2
      go_ret
      exact ⟨by rw [keyB, hn, if_neg hc]; rfl, rfl⟩
end Go.Proofs.Ytjkdhckhokkefaa.Rl

/-
  Package real, number by number (on): classes, keys back, the order, the next one, how far apart; the document's own answers are the same.
-/
namespace Go.Proofs.Ytjkdhckhokkefaa.Rl
open Go.RowKit
set_option maxRecDepth 100000
def cmpZ (x y : Int) : Int := if x < y then -1 else if y < x then 1 else 0
theorem cmpNaN_any (w : World) (x : Int) : Calls Try.prog 57 #[.int .u64 x] w fun e w' => e = .returned (.bool false) ∧ w' = w := by
  go_enter Try.func57, Try.ntmps57
  go_wp2
  go_ret
  exact ⟨by simp, rfl⟩
theorem cmp_any (w : World) (x y : Int) : Calls Try.prog 50 #[.int .u64 x, .int .u64 y] w fun e w' => e = .returned (.int .i64 (cmpZ x y)) ∧ w' = w := by
  go_enter Try.func50, Try.ntmps50
  go_wp2_with fail
  refine (cmpNaN_any _ _).mono ?_
  rintro e w1 ⟨rfl, rfl⟩
  go_wp2_with fail
  refine (cmpNaN_any _ _).mono ?_
  rintro e w2 ⟨rfl, rfl⟩
  go_wp2
  all_goals (go_ret; refine ⟨congrArg (fun x => Ending.returned (Value.int .i64 x)) (?_ : (_ : Int) = _), rfl⟩; unfold cmpZ; (repeat' split) <;> first | rfl | omega)
def cmpB (a b : Nat) : Int := cmpZ (keyB a) (keyB b)
theorem compare_any (w : World) (a b : Nat) (ha : a < 18446744073709551616) (hb : b < 18446744073709551616) :
    Calls Try.prog 35 #[.float .f64 a, .float .f64 b] w fun e w' => e = .returned (.int .i64 (cmpB a b)) ∧ w' = w := by
  go_enter Try.func35, Try.ntmps35
  go_wp2_with fail
  refine (key_any _ a ha).mono ?_
  rintro e w1 ⟨rfl, rfl⟩
  go_wp2_with fail
  refine (key_any _ b hb).mono ?_
  rintro e w2 ⟨rfl, rfl⟩
  go_wp2_with fail
  refine (cmp_any _ _ _).mono ?_
  rintro e w3 ⟨rfl, rfl⟩
  go_wp2
  go_ret
  exact ⟨rfl, rfl⟩
theorem keyB_nan (b : Nat) (hb : b < 18446744073709551616) : keyB b = 18446744073709551615 ↔ nanB b = true := by
  unfold keyB nanB
  by_cases h : b % 9223372036854775808 > 9218868437227405312
  · simp [h]
  · simp only [decide_eq_true_eq, h, if_false]
    split <;> simp <;> omega
end Go.Proofs.Ytjkdhckhokkefaa.Rl

/-
  Package real: how far apart two numbers stand; the document's own answer is the same.
-/
namespace Go.Proofs.Ytjkdhckhokkefaa.Rl
open Go.RowKit
set_option maxRecDepth 100000
end Go.Proofs.Ytjkdhckhokkefaa.Rl

/-
  Package real's exact sums: words in memory; which of two is less.
-/
namespace Go.Proofs.Ytjkdhckhokkefaa.Rl
open Go.RowKit
set_option maxRecDepth 100000
def wcells (ds : List Nat) : Array Value := (ds.map fun d : Nat => Value.int .u64 (d : Int)).toArray
/-- Block b holds the 34 words ds. -/
def Un (q : World) (b : Nat) (ds : List Nat) : Prop := ds.length = 34 ∧ Ws ds ∧ ∃ T, q.heap[b]? = some (.cells (wcells ds) T (0, 0))
theorem Un.cell {q : World} {b : Nat} {ds : List Nat} (h : Un q b ds) (i : Nat) (hi : i < ds.length) : q.cell? ⟨b, i, none⟩ = some (.int .u64 (ds[i] : Int)) := by
  obtain ⟨_, _, _, h⟩ := h
  unfold World.cell?
  simp only [h]
  simp [wcells, hi]
theorem Un.frozen {q : World} {b : Nat} {ds : List Nat} (h : Un q b ds) (i : Nat) : q.frozen? ⟨b, i, none⟩ = false := by
  obtain ⟨_, _, _, h⟩ := h
  simp [World.frozen?, h]
theorem Un.set {q : World} {b : Nat} {ds : List Nat} (h : Un q b ds) (i x : Nat) (hx : x < 18446744073709551616) : Un (q.setCell ⟨b, i, none⟩ (.int .u64 (x : Int))) b (ds.set i x) := by
  obtain ⟨h1, h2, T, h3⟩ := h
  refine ⟨by simpa using h1, h2.set i x hx, T, ?_⟩
  rw [heap_setCell_same q b i _ _ _ h3]
  congr 2
  simp [wcells, List.map_set]
theorem Un.other {q : World} {a b : Nat} {ds : List Nat} (h : Un q a ds) (hne : a ≠ b) (i : Nat) (v : Value) : Un (q.setCell ⟨b, i, none⟩ v) a ds :=
  ⟨h.1, h.2.1, by rw [heap_setCell_other q ⟨b, i, none⟩ a v hne]; exact h.2.2⟩
theorem Un.drew {q : World} {b : Nat} {ds : List Nat} (h : Un q b ds) : Un q.drew b ds := h
theorem Un.below {q q' : World} {b : Nat} {ds : List Nat} (h : Un q b ds) (hb : Below q.heap.size q q') : Un q' b ds := by
  obtain ⟨h1, h2, T, h3⟩ := h
  exact ⟨h1, h2, T, by rw [hb.block b (heap_lt h3)]; exact h3⟩
/-- How many times 2^-1074 a finite number of the bits s is. -/
def magB (s : Nat) : Nat := if s < 4503599627370496 then s else (s % 4503599627370496 + 4503599627370496) * 2 ^ (s / 4503599627370496 - 1)
end Go.Proofs.Ytjkdhckhokkefaa.Rl

/-
  Package real's exact sums: a number added, a sum taken away.
-/
namespace Go.Proofs.Ytjkdhckhokkefaa.Rl
open Go.RowKit
set_option maxRecDepth 100000
end Go.Proofs.Ytjkdhckhokkefaa.Rl

/-
  How many bits a number has; package real's exact sums: how many bits one has, which bits it has, what is left of it without its lowest ones.
-/
namespace Go.Proofs.Ytjkdhckhokkefaa.Rl
open Go.RowKit
set_option maxRecDepth 100000
end Go.Proofs.Ytjkdhckhokkefaa.Rl

/-
  Package real's exact sums: single bits, what is left without the lowest bits, whether one of the lowest is set.
-/
namespace Go.Proofs.Ytjkdhckhokkefaa.Rl
open Go.RowKit
set_option maxRecDepth 100000
end Go.Proofs.Ytjkdhckhokkefaa.Rl

/-
  Package real's exact sums: the number that is next to one.
-/
namespace Go.Proofs.Ytjkdhckhokkefaa.Rl
open Go.RowKit
set_option maxRecDepth 100000
/-- Is one added to what is kept of V, without its lowest s bits? -/
def upB (V s : Nat) : Bool := decide (V / 2 ^ (s - 1) % 2 = 1) && (decide (V / 2 ^ s % 2 = 1) || decide (V % 2 ^ (s - 1) ≠ 0))
/-- The bits of the number next to V times 2^-1074, of two that are as near the even one. -/
def roundB (V : Nat) : Nat := if V < 9007199254740992 then V else min ((V.log2 - 52) * 4503599627370496 + V / 2 ^ (V.log2 - 52) + (upB V (V.log2 - 52)).toNat) 9218868437227405312
end Go.Proofs.Ytjkdhckhokkefaa.Rl

/-
  Slices of one-cell elements as lists of values; arguments of types []uint64, []int64, []int and [][]byte, opened.
-/
namespace Go.Proofs.Ytjkdhckhokkefaa
open Go.ChangeShapes Go.WideShapes Go.ChangeAt Go.RowKit Go.Deep
/-- Values vs lie from address ao on. -/
def At (w : World) (ao : Option Addr) (vs : List Value) : Prop :=
  ∀ i (h : i < vs.length), ∃ b off, ao = some ⟨b, off, none⟩ ∧ w.cell? ⟨b, off + i, none⟩ = some vs[i]
/-- The value v is a slice of the values vs. -/
def Row (w : World) (v : Value) (vs : List Value) : Prop :=
  ∃ ao cap, v = .slice ao vs.length cap ∧ (ao = none → vs = [] ∧ cap = 0) ∧ vs.length ≤ cap ∧ cap ≤ maxLen ∧ At w ao vs
theorem At.at {w : World} {ao : Option Addr} {vs : List Value} (h : At w ao vs) (hl : 0 < vs.length) :
    ∃ b off, ao = some ⟨b, off, none⟩ ∧ ∀ i (h : i < vs.length), w.cell? ⟨b, off + i, none⟩ = some vs[i] := by
  obtain ⟨b, off, e, _⟩ := h 0 hl
  refine ⟨b, off, e, fun i hi => ?_⟩
  obtain ⟨b', off', e', hc⟩ := h i hi
  rw [e] at e'
  simp only [Option.some.injEq, Addr.mk.injEq] at e'
  obtain ⟨rfl, rfl, _⟩ := e'
  exact hc
theorem Row.nil (w : World) : Row w (.slice none 0 0) [] := ⟨none, 0, rfl, fun _ => ⟨rfl, rfl⟩, Nat.le_refl _, Nat.zero_le _, fun i hi => by simp at hi⟩
theorem Below.row {w w' : World} (h : Below w.heap.size w w') {v : Value} {vs : List Value} (g : Row w v vs) : Row w' v vs := by
  obtain ⟨ao, cap, h1, h2, h3, h4, h5⟩ := g
  refine ⟨ao, cap, h1, h2, h3, h4, fun i hi => ?_⟩
  obtain ⟨b, off, e, hc⟩ := h5 i hi
  exact ⟨b, off, e, by rw [h.cell (p := ⟨b, off + i, none⟩) (lt_of_cell hc)]; exact hc⟩
end Go.Proofs.Ytjkdhckhokkefaa

/-
  Package real's exact sums: what the classes alone say.
-/
namespace Go.Proofs.Ytjkdhckhokkefaa.Rl
open Go.RowKit
set_option maxRecDepth 100000
def cnt (xs : List Nat) (c : Nat) : Nat := xs.countP fun b => classB b == (c : Int)
def counts (xs : List Nat) : List Nat := (List.range 10).map (cnt xs)
def ccells (xs : List Nat) : Array Value := ((counts xs).map fun n : Nat => Value.int .i64 (n : Int)).toArray
/-- Block b holds how many there are of each class. -/
def Ct (q : World) (b : Nat) (xs : List Nat) : Prop := ∃ T, q.heap[b]? = some (.cells (ccells xs) T (0, 0))
theorem Ct.cell {q : World} {b : Nat} {xs : List Nat} (h : Ct q b xs) (i : Nat) (hi : i < 10) : q.cell? ⟨b, i, none⟩ = some (.int .i64 (cnt xs i : Int)) := by
  obtain ⟨_, h⟩ := h
  unfold World.cell?
  simp only [h]
  simp [ccells, counts, hi]
theorem Ct.frozen {q : World} {b : Nat} {xs : List Nat} (h : Ct q b xs) (i : Nat) : q.frozen? ⟨b, i, none⟩ = false := by
  obtain ⟨_, h⟩ := h
  simp [World.frozen?, h]
theorem cnt_snoc (xs : List Nat) (x c : Nat) : cnt (xs ++ [x]) c = cnt xs c + if classB x = (c : Int) then 1 else 0 := by
  unfold cnt
  rw [List.countP_append]
  simp [List.countP_cons]
theorem counts_snoc (xs : List Nat) (x c : Nat) (hc : classB x = (c : Int)) : (counts xs).set c (cnt xs c + 1) = counts (xs ++ [x]) := by
  apply List.ext_getElem
  · simp [counts]
  · intro i h1 h2
    simp [counts] at h2
    simp only [counts, List.getElem_set, List.getElem_map, List.getElem_range]
    rw [cnt_snoc]
    by_cases h : c = i
    · subst h; rw [if_pos rfl, if_pos hc]
    · rw [if_neg h, if_neg (by omega)]; rfl
theorem Ct.more {q : World} {b : Nat} {xs : List Nat} (h : Ct q b xs) (x c : Nat) (hc : classB x = (c : Int)) : Ct (q.setCell ⟨b, c, none⟩ (.int .i64 ((cnt xs c : Int) + 1))) b (xs ++ [x]) := by
  obtain ⟨T, h⟩ := h
  refine ⟨T, ?_⟩
  rw [heap_setCell_same q b c _ _ _ h]
  congr 2
  rw [ccells, ccells, ← counts_snoc xs x c hc]
  simp [List.map_set]
theorem Ct.below {q q' : World} {b : Nat} {xs : List Nat} (h : Ct q b xs) (hb : Below q.heap.size q q') : Ct q' b xs := by
  obtain ⟨T, h⟩ := h
  exact ⟨T, by rw [hb.block b (heap_lt h)]; exact h⟩
def fvals (xs : List Nat) : List Value := xs.map fun b => .float .f64 b
def Bs (xs : List Nat) : Prop := ∀ b ∈ xs, b < 18446744073709551616
theorem Ct.new (w : World) (cs : Array Value) (T : TypeId) (hs : cs = ccells []) : Ct (w.alloc (.cells cs T)) w.heap.size [] := ⟨T, by rw [heap_alloc_new, hs]⟩
end Go.Proofs.Ytjkdhckhokkefaa.Rl

/-
  Package real's exact sums: what Sum answers.
-/
namespace Go.Proofs.Ytjkdhckhokkefaa.Rl
open Go.RowKit
set_option maxRecDepth 100000
theorem pow_le2 (a b : Nat) (h : a ≤ b) : 2 ^ a ≤ 2 ^ b := Nat.pow_le_pow_right Nat.two_pos h
theorem Un.new {w : World} {b : Nat} {cs : Array Value} {T : TypeId} (h : w.heap[b]? = some (.cells cs T (0, 0))) (hs : cs = wcells (List.replicate 34 0)) : Un w b (List.replicate 34 0) :=
  ⟨by simp, fun d hd => by simp at hd; omega, T, by rw [h, hs]⟩
theorem Un.grown {w w' : World} {a b : Nat} {ds : List Nat} (h : Un w a ds) (hg : w.grownBy w' (some b)) (hne : a ≠ b) : Un w' a ds := by
  obtain ⟨h1, h2, T, h3⟩ := h
  exact ⟨h1, h2, T, by rw [hg.block a (heap_lt h3) (by simpa using hne)]; exact h3⟩
end Go.Proofs.Ytjkdhckhokkefaa.Rl

/-
  How Go's own less stands to the order of package real.
-/
namespace Go.Proofs.Ytjkdhckhokkefaa.Rl
open Go.RowKit
set_option maxRecDepth 100000
def sg (b : Nat) : Int := if b < 9223372036854775808 then (magB b : Int) else -(magB (b - 9223372036854775808) : Int)
theorem fmt_sign : Ieee.double.signWeight = 9223372036854775808 := by decide +kernel
theorem fmt_bin : Ieee.double.binade = 4503599627370496 := by decide +kernel
theorem fmt_inf : Ieee.double.infRung = 9218868437227405312 := by decide +kernel
theorem fmt_least : Ieee.double.leastPlace = -1074 := by decide +kernel
def sgnB (b : Nat) : Bool := b / 9223372036854775808 % 2 == 1
theorem read_nan {b : Nat} (h : nanB b = true) : ∃ t, Ieee.double.read b = .nan (sgnB b) t := by
  have h1 : b % 9223372036854775808 > 9218868437227405312 := of_decide_eq_true h
  unfold Ieee.Format.read
  rw [fmt_sign, fmt_bin, fmt_inf, fmt_least]
  simp only
  rw [if_neg (by omega), if_neg (by omega), if_neg (by omega)]
  exact ⟨_, rfl⟩
theorem read_inf {b : Nat} (h : b % 9223372036854775808 = 9218868437227405312) : Ieee.double.read b = .infinity (sgnB b) := by
  unfold Ieee.Format.read
  rw [fmt_sign, fmt_bin, fmt_inf, fmt_least]
  simp only
  rw [if_neg (by omega), if_neg (by omega), if_pos h]
  rfl
theorem read_fin {b : Nat} (h : b % 9223372036854775808 < 9218868437227405312) : ∃ m k : Nat, Ieee.double.read b = .number (sgnB b) m (-1074 + (k : Int)) ∧ m * 2 ^ k = magB (b % 9223372036854775808) := by
  unfold Ieee.Format.read magB
  rw [fmt_sign, fmt_bin, fmt_inf, fmt_least]
  simp only
  by_cases h1 : b % 9223372036854775808 < 4503599627370496
  · rw [if_pos h1, if_pos h1]
    exact ⟨_, 0, rfl, by simp⟩
  · rw [if_neg h1, if_neg h1, if_pos h]
    refine ⟨_, _, rfl, ?_⟩
    rw [Nat.add_comm]
theorem mag_mono {s t : Nat} (h : s < t) : magB s < magB t := by
  unfold magB
  by_cases h1 : s < 4503599627370496
  · rw [if_pos h1]
    by_cases h2 : t < 4503599627370496
    · rw [if_pos h2]; exact h
    · rw [if_neg h2]
      have : 1 ≤ 2 ^ (t / 4503599627370496 - 1) := Nat.two_pow_pos _
      exact Nat.lt_of_lt_of_le (by omega : s < (t % 4503599627370496 + 4503599627370496)) (Nat.le_mul_of_pos_right _ this)
  · rw [if_neg h1, if_neg (by omega)]
    by_cases he : s / 4503599627370496 = t / 4503599627370496
    · rw [he]
      exact Nat.mul_lt_mul_of_pos_right (by omega) (Nat.two_pow_pos _)
    · have h3 : s / 4503599627370496 < t / 4503599627370496 := by
        have : s / 4503599627370496 ≤ t / 4503599627370496 := Nat.div_le_div_right (by omega)
        omega
      have h4 : 2 ^ (s / 4503599627370496 - 1) * 2 ≤ 2 ^ (t / 4503599627370496 - 1) := by
        rw [← Nat.pow_succ]; exact Nat.pow_le_pow_right Nat.two_pos (by omega)
      have h5 : (s % 4503599627370496 + 4503599627370496) * 2 ^ (s / 4503599627370496 - 1) < 9007199254740992 * 2 ^ (s / 4503599627370496 - 1) := Nat.mul_lt_mul_of_pos_right (by omega) (Nat.two_pow_pos _)
      have h6 : 4503599627370496 * (2 ^ (s / 4503599627370496 - 1) * 2) ≤ 4503599627370496 * 2 ^ (t / 4503599627370496 - 1) := Nat.mul_le_mul_left _ h4
      have h7 : 4503599627370496 * 2 ^ (t / 4503599627370496 - 1) ≤ (t % 4503599627370496 + 4503599627370496) * 2 ^ (t / 4503599627370496 - 1) := Nat.mul_le_mul_right _ (by omega)
      omega
theorem mag_zero : magB 0 = 0 := by decide
theorem mul_cmp (x y : Int) (p : Nat) (hp : 0 < p) : compare x y = compare (x * p) (y * p) := by
  have hp' : (0 : Int) < p := by omega
  rcases Int.lt_trichotomy x y with h | h | h
  · rw [Int.compare_eq_lt.2 h, Int.compare_eq_lt.2 (Int.mul_lt_mul_of_pos_right h hp')]
  · subst h; rw [Int.compare_eq_eq.2 rfl, Int.compare_eq_eq.2 rfl]
  · rw [Int.compare_eq_gt.2 h, Int.compare_eq_gt.2 (Int.mul_lt_mul_of_pos_right h hp')]
theorem sg_eq {b : Nat} (hb : b < 18446744073709551616) : sg b = if sgnB b then -(magB (b % 9223372036854775808) : Int) else (magB (b % 9223372036854775808) : Int) := by
  unfold sg sgnB
  by_cases h : b < 9223372036854775808
  · rw [if_pos h, show b / 9223372036854775808 % 2 = 0 by omega, show b % 9223372036854775808 = b by omega]; exact (if_neg (by decide)).symm
  · rw [if_neg h, show b / 9223372036854775808 % 2 = 1 by omega, show b % 9223372036854775808 = b - 9223372036854775808 by omega]; exact (if_pos (by decide)).symm
theorem signed_mul (s : Bool) (m h e : Nat) (he : e ≤ h) : Ieee.signed s m (h - e) * ((2 ^ e : Nat) : Int) = if s then -((m * 2 ^ h : Nat) : Int) else ((m * 2 ^ h : Nat) : Int) := by
  unfold Ieee.signed
  have e1 : m <<< (h - e) * 2 ^ e = m * 2 ^ h := by
    rw [Nat.shiftLeft_eq, Nat.mul_assoc, ← Nat.pow_add, Nat.sub_add_cancel he]
  cases s
  · simp only [Bool.false_eq_true, if_false]; rw [← e1]; simp
  · simp only [if_true]; rw [← e1, Int.neg_mul]; simp
theorem order_eq {a b : Nat} (ha : a < 18446744073709551616) (hb : b < 18446744073709551616) (na : nanB a = false) (nb : nanB b = false) : FloatKind.f64.format.order a b = some (compare (sg a) (sg b)) := by
  have ha1 : ¬ a % 9223372036854775808 > 9218868437227405312 := of_decide_eq_false na
  have hb1 : ¬ b % 9223372036854775808 > 9218868437227405312 := of_decide_eq_false nb
  show (Ieee.double.read a).order (Ieee.double.read b) = _
  rw [sg_eq ha, sg_eq hb]
  rcases Nat.lt_or_ge (a % 9223372036854775808) 9218868437227405312 with h1 | h1
  · obtain ⟨m, h, ea, em⟩ := read_fin h1
    rw [ea, ← em]
    rcases Nat.lt_or_ge (b % 9223372036854775808) 9218868437227405312 with h2 | h2
    · obtain ⟨n, k, eb, en⟩ := read_fin h2
      rw [eb, ← en]
      show some (compare _ _) = _
      rw [show ((-1074 + (h : Int)) - min (-1074 + (h : Int)) (-1074 + (k : Int))).toNat = h - min h k by omega,
        show ((-1074 + (k : Int)) - min (-1074 + (h : Int)) (-1074 + (k : Int))).toNat = k - min h k by omega,
        mul_cmp _ _ (2 ^ min h k) (Nat.two_pow_pos _), signed_mul _ _ _ _ (Nat.min_le_left _ _), signed_mul _ _ _ _ (Nat.min_le_right _ _)]
    · have h3 : b % 9223372036854775808 = 9218868437227405312 := by omega
      rw [read_inf h3, h3]
      show some (if sgnB b then _ else _) = _
      have hm := mag_mono h1
      rw [em]
      have h0 : (0 : Int) ≤ (magB (a % 9223372036854775808) : Int) := Int.natCast_nonneg _
      cases sgnB b <;> cases sgnB a <;> simp only [Bool.false_eq_true, if_false, if_true]
      · rw [Int.compare_eq_lt.2 (by omega)]
      · rw [Int.compare_eq_lt.2 (by omega)]
      · rw [Int.compare_eq_gt.2 (by omega)]
      · rw [Int.compare_eq_gt.2 (by omega)]
  · have h3 : a % 9223372036854775808 = 9218868437227405312 := by omega
    rw [read_inf h3, h3]
    rcases Nat.lt_or_ge (b % 9223372036854775808) 9218868437227405312 with h2 | h2
    · obtain ⟨n, k, eb, en⟩ := read_fin h2
      rw [eb, ← en]
      show some (if sgnB a then _ else _) = _
      have hm := mag_mono h2
      rw [en]
      have h0 : (0 : Int) ≤ (magB (b % 9223372036854775808) : Int) := Int.natCast_nonneg _
      cases sgnB b <;> cases sgnB a <;> simp only [Bool.false_eq_true, if_false, if_true]
      · rw [Int.compare_eq_gt.2 (by omega)]
      · rw [Int.compare_eq_lt.2 (by omega)]
      · rw [Int.compare_eq_gt.2 (by omega)]
      · rw [Int.compare_eq_lt.2 (by omega)]
    · have h4 : b % 9223372036854775808 = 9218868437227405312 := by omega
      rw [read_inf h4, h4]
      show some (compare _ _) = _
      have h0 : 0 < magB 9218868437227405312 := by have := mag_mono (show 0 < 9218868437227405312 by omega); rw [mag_zero] at this; exact this
      cases sgnB b <;> cases sgnB a <;> simp only [Bool.false_eq_true, if_false, if_true]
      · rw [Int.compare_eq_eq.2 rfl]; rfl
      · rw [Int.compare_eq_lt.2 (by omega)]; rfl
      · rw [Int.compare_eq_gt.2 (by omega)]; rfl
      · rw [Int.compare_eq_eq.2 rfl]; rfl
theorem order_nan {a b : Nat} (h : nanB a = true ∨ nanB b = true) : FloatKind.f64.format.order a b = none := by
  show (Ieee.double.read a).order (Ieee.double.read b) = _
  rcases h with h | h
  · obtain ⟨t, e⟩ := read_nan h
    rw [e]; rfl
  · obtain ⟨t, e⟩ := read_nan h
    rw [e]
    cases Ieee.double.read a <;> rfl
theorem order_self {a : Nat} (ha : a < 18446744073709551616) : (FloatKind.f64.format.order a a == some Ordering.eq) = !nanB a := by
  cases hn : nanB a
  · rw [order_eq ha ha hn hn, Int.compare_eq_eq.2 rfl]; rfl
  · rw [order_nan (Or.inl hn)]; rfl
theorem mathIsNaN_any (w : World) (b : Nat) (hb : b < 18446744073709551616) : Calls Try.prog 26 #[.float .f64 b] w fun e w' => e = .returned (.bool (nanB b)) ∧ w' = w := by
  have ho : Hid ((FloatKind.f64.format.order b b == some Ordering.eq) = !nanB b) := order_self hb
  clear hb
  go_enter Try.func26, Try.ntmps26
  go_wp2
  go_ret
  refine ⟨congrArg (fun x => Ending.returned (Value.bool x)) (?_ : (_ != _) = _), rfl⟩
  rw [bne, ho.out, Bool.not_not]
end Go.Proofs.Ytjkdhckhokkefaa.Rl

/-
  The model's nearest number is the one that an exact sum is rounded to.
-/
namespace Go.Proofs.Ytjkdhckhokkefaa.Rl
open Go.RowKit
set_option maxRecDepth 100000
theorem up_iff (V s : Nat) (hs : 1 ≤ s) : upB V s = decide (2 ^ s < 2 * (V % 2 ^ s) ∨ (2 ^ s = 2 * (V % 2 ^ s) ∧ V / 2 ^ s % 2 = 1)) := by
  obtain ⟨t, rfl⟩ : ∃ t, s = t + 1 := ⟨s - 1, by omega⟩
  unfold upB
  rw [Nat.add_sub_cancel]
  have hp : 0 < 2 ^ t := Nat.two_pow_pos t
  have e1 : V % 2 ^ (t + 1) = V % 2 ^ t + 2 ^ t * (V / 2 ^ t % 2) := by rw [Nat.pow_succ, Nat.mod_mul]
  have e2 : V % 2 ^ t < 2 ^ t := Nat.mod_lt _ hp
  rw [e1, Nat.pow_succ]
  generalize V / (2 ^ t * 2) % 2 = o
  generalize V % 2 ^ t = r at *
  have hb : V / 2 ^ t % 2 = 0 ∨ V / 2 ^ t % 2 = 1 := by omega
  generalize V / 2 ^ t % 2 = b at *
  generalize 2 ^ t = P at *
  rcases hb with rfl | rfl
  · rw [Nat.mul_zero, Nat.add_zero, decide_eq_false (by omega : ¬ (0 = 1)), Bool.false_and]
    rw [decide_eq_false (by omega)]
  · rw [Nat.mul_one, decide_eq_true rfl, Bool.true_and]
    rw [Bool.eq_iff_iff]
    simp only [Bool.or_eq_true, decide_eq_true_eq]
    omega
theorem log2_mul_pow (m p : Nat) (hm : m ≠ 0) : (m * 2 ^ p).log2 = m.log2 + p := by
  have h0 : m * 2 ^ p ≠ 0 := Nat.mul_ne_zero hm (Nat.pos_iff_ne_zero.1 (Nat.two_pow_pos p))
  rw [Nat.log2_eq_iff h0]
  have h1 := (Nat.log2_eq_iff hm).1 rfl
  refine ⟨?_, ?_⟩
  · rw [Nat.pow_add]; exact Nat.mul_le_mul_right _ h1.1
  · rw [show m.log2 + p + 1 = (m.log2 + 1) + p by omega, Nat.pow_add]; exact Nat.mul_lt_mul_of_pos_right h1.2 (Nat.two_pow_pos p)
theorem cut_zero (neg : Bool) (n : Nat) : Ieee.Toward.even.cut neg n 0 = n := by
  unfold Ieee.Toward.cut
  simp [Nat.mod_one]
theorem cut_some (neg : Bool) (n d : Nat) (hd : d ≤ n.log2 + 2) : Ieee.Toward.even.cut neg n d = n / 2 ^ d + (decide (2 ^ d < 2 * (n % 2 ^ d) ∨ (2 ^ d = 2 * (n % 2 ^ d) ∧ n / 2 ^ d % 2 = 1))).toNat := by
  unfold Ieee.Toward.cut
  simp only [Nat.min_eq_left hd, Nat.one_shiftLeft]
  congr 2
  rw [Bool.eq_iff_iff]
  simp
theorem round_zero : roundB 0 = 0 := by unfold roundB; rw [if_pos (by omega)]
theorem nearest_eq (neg : Bool) (m p : Nat) : Ieee.double.nearest neg m (-1074 + (p : Int)) = Ieee.double.word neg (roundB (m * 2 ^ p)) := by
  unfold Ieee.Format.nearest
  by_cases hm : m = 0
  · subst hm; rw [if_pos rfl, Nat.zero_mul, round_zero]
  · rw [if_neg hm, fmt_least, fmt_bin, fmt_inf]
    simp only
    obtain ⟨s, hs⟩ : ∃ s : Nat, s = m.log2 + p - 52 := ⟨_, rfl⟩
    have e1 : max (-1074 + (p : Int) + (m.log2 : Int) - (Ieee.double.fractionBits : Int)) (-1074) = -1074 + (s : Int) := by
      have : (Ieee.double.fractionBits : Int) = 52 := rfl
      rw [this]; omega
    rw [e1, show (-1074 + (p : Int) - (-1074 + (s : Int))).toNat = p - s by omega, show (-1074 + (s : Int) - (-1074 + (p : Int))).toNat = s - p by omega,
      show (-1074 + (s : Int) - -1074).toNat = s by omega]
    congr 1
    have hl := log2_mul_pow m p hm
    have hV0 : m * 2 ^ p ≠ 0 := Nat.mul_ne_zero hm (Nat.pos_iff_ne_zero.1 (Nat.two_pow_pos p))
    have hb := (Nat.log2_eq_iff hV0).1 rfl
    rw [hl] at hb
    by_cases hps : s ≤ p
    · rw [show s - p = 0 by omega, cut_zero, Nat.shiftLeft_eq]
      have e2 : m * 2 ^ p = m * 2 ^ (p - s) * 2 ^ s := by rw [Nat.mul_assoc, ← Nat.pow_add, Nat.sub_add_cancel hps]
      have e3 : m * 2 ^ p / 2 ^ s = m * 2 ^ (p - s) := by rw [e2, Nat.mul_div_cancel _ (Nat.two_pow_pos s)]
      have e4 : m * 2 ^ p % 2 ^ s = 0 := by rw [e2]; exact Nat.mul_mod_left _ _
      unfold roundB
      by_cases hlt : m * 2 ^ p < 9007199254740992
      · have hs0 : s = 0 := by
          have : m.log2 + p < 53 := by
            rcases Nat.lt_or_ge (m.log2 + p) 53 with h | h
            · exact h
            · have := pow_le2 53 _ h; omega
          omega
        rw [if_pos hlt]
        subst hs0
        simp only [Nat.zero_mul, Nat.zero_add, Nat.sub_zero]
        exact Nat.min_eq_left (by omega)
      · have hs1 : 1 ≤ s := by
          rcases Nat.lt_or_ge s 1 with h | h
          · exfalso
            have h2 : m.log2 + p + 1 ≤ 53 := by omega
            have := pow_le2 _ 53 h2
            omega
          · exact h
        have hf : ¬ (2 ^ s < 2 * 0 ∨ (2 ^ s = 2 * 0 ∧ m * 2 ^ (p - s) % 2 = 1)) := by have := Nat.two_pow_pos s; omega
        rw [if_neg hlt, hl, ← hs, up_iff _ _ hs1, e3, e4, decide_eq_false hf, Bool.toNat_false, Nat.add_zero]
    · have hs2 : s - p = m.log2 - 52 := by omega
      have hsp : s = (s - p) + p := by omega
      rw [show p - s = 0 by omega, Nat.shiftLeft_zero, cut_some _ _ _ (by omega)]
      have e3 : m * 2 ^ p / 2 ^ s = m / 2 ^ (s - p) := by rw [hsp, Nat.pow_add, Nat.mul_div_mul_right _ _ (Nat.two_pow_pos p), Nat.add_sub_cancel]
      have e4 : m * 2 ^ p % 2 ^ s = m % 2 ^ (s - p) * 2 ^ p := by rw [hsp, Nat.pow_add, Nat.mul_mod_mul_right, Nat.add_sub_cancel]
      have hs1 : 1 ≤ s := by omega
      have hlt : ¬ m * 2 ^ p < 9007199254740992 := by
        have h2 : 53 ≤ m.log2 + p := by omega
        have := pow_le2 53 _ h2
        omega
      unfold roundB
      rw [if_neg hlt, hl, ← hs, up_iff _ _ hs1, e3, e4]
      have e5 : 2 ^ s = 2 ^ (s - p) * 2 ^ p := by rw [← Nat.pow_add]; congr 1
      rw [e5, show 2 * (m % 2 ^ (s - p) * 2 ^ p) = (2 * (m % 2 ^ (s - p))) * 2 ^ p by rw [Nat.mul_assoc]]
      have h6 : ∀ a b : Nat, a * 2 ^ p < b * 2 ^ p ↔ a < b := fun a b => Nat.mul_lt_mul_right (Nat.two_pow_pos p)
      have h7 : ∀ a b : Nat, a * 2 ^ p = b * 2 ^ p ↔ a = b := fun a b => ⟨fun h => Nat.eq_of_mul_eq_mul_right (Nat.two_pow_pos p) h, fun h => by rw [h]⟩
      simp only [h6, h7]
      rw [Nat.add_assoc]
end Go.Proofs.Ytjkdhckhokkefaa.Rl

/-
  What exact sums come to: of one number, of two, of whole numbers, of a list turned round, of a list with a number and its opposite.
-/
namespace Go.Proofs.Ytjkdhckhokkefaa.Rl
open Go.RowKit
set_option maxRecDepth 100000
theorem round_exact (D h : Nat) (hD : D < 9007199254740992) (hh : h ≤ 2045) : magB (roundB (D * 2 ^ h)) = D * 2 ^ h := by
  unfold roundB
  by_cases hlt : D * 2 ^ h < 9007199254740992
  · rw [if_pos hlt]
    unfold magB
    by_cases h1 : D * 2 ^ h < 4503599627370496
    · rw [if_pos h1]
    · rw [if_neg h1, show D * 2 ^ h / 4503599627370496 - 1 = 0 by omega, Nat.pow_zero, Nat.mul_one]; omega
  · rw [if_neg hlt]
    have hD0 : D ≠ 0 := by rintro rfl; rw [Nat.zero_mul] at hlt; omega
    have hl := log2_mul_pow D h hD0
    have hV0 : D * 2 ^ h ≠ 0 := Nat.mul_ne_zero hD0 (Nat.pos_iff_ne_zero.1 (Nat.two_pow_pos h))
    have hb := (Nat.log2_eq_iff hV0).1 rfl
    have hbD := (Nat.log2_eq_iff hD0).1 rfl
    rw [hl] at hb
    have hd52 : D.log2 ≤ 52 := by
      rcases Nat.lt_or_ge 52 D.log2 with g | g
      · have := pow_le2 53 _ g; omega
      · exact g
    have h53 : 53 ≤ D.log2 + h := by
      rcases Nat.lt_or_ge (D.log2 + h) 53 with g | g
      · have := pow_le2 (D.log2 + h + 1) 53 (by omega); omega
      · exact g
    obtain ⟨s, hs⟩ : ∃ s, s = D.log2 + h - 52 := ⟨_, rfl⟩
    rw [hl, ← hs]
    have hsh : s ≤ h := by omega
    have e2 : D * 2 ^ h = D * 2 ^ (h - s) * 2 ^ s := by rw [Nat.mul_assoc, ← Nat.pow_add, Nat.sub_add_cancel hsh]
    have e3 : D * 2 ^ h / 2 ^ s = D * 2 ^ (h - s) := by rw [e2, Nat.mul_div_cancel _ (Nat.two_pow_pos s)]
    have e4 : D * 2 ^ h % 2 ^ s = 0 := by rw [e2]; exact Nat.mul_mod_left _ _
    have hf : ¬ (2 ^ s < 2 * 0 ∨ (2 ^ s = 2 * 0 ∧ D * 2 ^ (h - s) % 2 = 1)) := by have := Nat.two_pow_pos s; omega
    rw [up_iff _ _ (by omega), e3, e4, decide_eq_false hf, Bool.toNat_false, Nat.add_zero]
    have hq1 : 4503599627370496 ≤ D * 2 ^ (h - s) := by
      have g1 : 2 ^ (D.log2 + (h - s)) = 2 ^ 52 := by congr 1; omega
      have g2 : 2 ^ D.log2 * 2 ^ (h - s) ≤ D * 2 ^ (h - s) := Nat.mul_le_mul_right _ hbD.1
      rw [← Nat.pow_add, g1] at g2
      omega
    have hq2 : D * 2 ^ (h - s) < 9007199254740992 := by
      have g1 : 2 ^ (D.log2 + 1 + (h - s)) = 2 ^ 53 := by congr 1; omega
      have g2 : D * 2 ^ (h - s) < 2 ^ (D.log2 + 1) * 2 ^ (h - s) := Nat.mul_lt_mul_of_pos_right hbD.2 (Nat.two_pow_pos _)
      rw [← Nat.pow_add, g1] at g2
      omega
    rw [e2]
    generalize D * 2 ^ (h - s) = q at *
    rw [Nat.min_eq_left (by omega)]
    unfold magB
    rw [if_neg (by omega), show (s * 4503599627370496 + q) / 4503599627370496 - 1 = s by omega, show (s * 4503599627370496 + q) % 4503599627370496 + 4503599627370496 = q by omega]
end Go.Proofs.Ytjkdhckhokkefaa.Rl

/-
  Exact sums of one number and of two, and Go's own.
-/
namespace Go.Proofs.Ytjkdhckhokkefaa.Rl
open Go.RowKit
set_option maxRecDepth 100000
theorem word_eq (neg : Bool) (r : Nat) : Ieee.double.word neg r = if neg then 9223372036854775808 + r else r := by unfold Ieee.Format.word; rw [fmt_sign]
end Go.Proofs.Ytjkdhckhokkefaa.Rl

/-
  The numbers of their bits, as a list of its own.
-/
namespace Go.Proofs.Ytjkdhckhokkefaa.Rl
open Go.RowKit
set_option maxRecDepth 100000
theorem Try.infoF64 : (Try.prog.info? 26).map (fun i => (i.zero, i.size, i.bytes)) = some (some (.float .f64 0), 1, 8) := by kernel_rfl
theorem Row.of_owns {w : World} {base e n : Nat} {v : Value} {vs : List Value} (h : w.ownsRow base e 1 v n vs) : Row w v vs := by
  have h0 := h
  obtain ⟨h1, h2⟩ := h
  rw [Nat.mul_one] at h1
  subst h1
  rcases h2 with ⟨rfl, hn⟩ | ⟨g, cap, cur, rfl, hg, hh, hn, hm, hs, ht⟩
  · obtain rfl := List.length_eq_zero_iff.1 hn
    exact Row.nil w
  · refine ⟨some ⟨g, 0, none⟩, cap, rfl, fun e => by simp at e, hn, hm, fun i hi => ⟨g, 0, rfl, ?_⟩⟩
    rw [Nat.zero_add, h0.cellAt i (by omega)]
    simp [hi]
end Go.Proofs.Ytjkdhckhokkefaa.Rl

/-
  Floating numbers by their bits: the order, rounding.
-/
namespace Go.Proofs.Ytjkdhckhokkefaa.Gg
open Go.RowKit Rl
set_option linter.unusedVariables false
theorem nn {a : Nat} (h : a ≤ 9218868437227405312) : nanB a = false := by
  unfold nanB; rw [Nat.mod_eq_of_lt (by omega)]; simp; omega
theorem nneg {a : Nat} (h : 9223372036854775808 ≤ a) (h2 : a ≤ 18442240474082181120) : nanB a = false := by
  unfold nanB; simp; omega
theorem sg_pos {a : Nat} (h : a ≤ 9218868437227405312) : sg a = (magB a : Int) := by unfold sg; rw [if_pos (by omega)]
theorem cmp_mag {a b : Nat} : compare ((magB a : Int)) (magB b : Int) = compare a b := by
  rcases Nat.lt_trichotomy a b with h | h | h
  · have := mag_mono h
    rw [Int.compare_eq_lt.2 (show (magB a : Int) < magB b by omega), Nat.compare_eq_lt.2 h]
  · subst h; simp
  · have := mag_mono h
    rw [Int.compare_eq_gt.2 (show (magB b : Int) < magB a by omega), Nat.compare_eq_gt.2 h]
/-- Two numbers from 0 on, as Go compares them. -/
theorem ord_pos {a b : Nat} (ha : a ≤ 9218868437227405312) (hb : b ≤ 9218868437227405312) : FloatKind.f64.format.order a b = some (compare a b) := by
  rw [order_eq (by omega) (by omega) (nn ha) (nn hb), sg_pos ha, sg_pos hb, cmp_mag]
theorem ord_mz {b : Nat} (hb : b ≤ 9218868437227405312) : FloatKind.f64.format.order 9223372036854775808 b = some (compare 0 b) := by
  rw [order_eq (by omega) (by omega) (nneg (by omega) (by omega)) (nn hb), sg_pos hb]
  have : sg 9223372036854775808 = (magB 0 : Int) := by unfold sg; rw [if_neg (by omega)]; simp [mag_zero]
  rw [this, cmp_mag]
theorem ord_neg {a b : Nat} (ha : 9223372036854775808 < a) (ha2 : a ≤ 18442240474082181120) (hb : b ≤ 9218868437227405312) : FloatKind.f64.format.order a b = some .lt := by
  rw [order_eq (by omega) (by omega) (nneg (by omega) ha2) (nn hb), sg_pos hb]
  have h1 : sg a = -(magB (a - 9223372036854775808) : Int) := by unfold sg; rw [if_neg (by omega)]
  have h2 : magB 0 < magB (a - 9223372036854775808) := mag_mono (by omega)
  rw [mag_zero] at h2
  rw [h1, Int.compare_eq_lt.2 (by omega)]
theorem fcase {b : Nat} (hb : b < 18446744073709551616) : nanB b = true ∨ b ≤ 9218868437227405312 ∨ b = 9223372036854775808 ∨ (9223372036854775808 < b ∧ b ≤ 18442240474082181120) := by
  by_cases h : nanB b = true
  · exact .inl h
  · right
    unfold nanB at h
    simp at h
    omega
theorem nan_big {b : Nat} (h : nanB b = true) : ¬ b ≤ 9218868437227405312 ∧ b ≠ 9223372036854775808 := by
  refine ⟨fun c => ?_, fun c => ?_⟩
  · rw [nn c] at h; cases h
  · rw [nneg (by omega) (by omega)] at h; cases h
theorem cmp0 {b : Nat} (h : 0 < b) : compare b 0 = Ordering.gt := Nat.compare_eq_gt.2 h
/-- Halves to even, among numbers of one size. -/
theorem up_mono {V V' e : Nat} (h : V ≤ V') (he : 1 ≤ e) : V / 2 ^ e + (upB V e).toNat ≤ V' / 2 ^ e + (upB V' e).toNat := by
  have hq : V / 2 ^ e ≤ V' / 2 ^ e := Nat.div_le_div_right h
  have hu : (upB V e).toNat ≤ 1 := by cases upB V e <;> simp
  rcases Nat.lt_or_eq_of_le hq with q | q
  · omega
  · obtain ⟨H, hH⟩ : ∃ H, 2 ^ (e - 1) = H := ⟨_, rfl⟩
    have hP : 2 ^ e = 2 * H := by rw [← hH, ← Nat.pow_succ']; congr 1; omega
    have hH0 : 0 < H := by rw [← hH]; exact Nat.two_pow_pos _
    cases hb : upB V e
    · simp; omega
    · have : upB V' e = true := by
        unfold upB at hb ⊢
        rw [hH, hP] at hb ⊢
        rw [hP] at q
        simp only [Bool.and_eq_true, Bool.or_eq_true, decide_eq_true_eq] at hb ⊢
        obtain ⟨h1, h2⟩ := hb
        have d1 := Nat.div_add_mod V (2 * H)
        have d2 := Nat.div_add_mod V' (2 * H)
        have m1 := Nat.mod_lt V (show 0 < 2 * H by omega)
        have m2 := Nat.mod_lt V' (show 0 < 2 * H by omega)
        have g : ∀ X : Nat, X / H % 2 = (X % (2 * H)) / H ∧ X % H = X % (2 * H) % H := fun X => by
          refine ⟨?_, ?_⟩
          · rw [Nat.mul_comm 2 H, Nat.mod_mul_right_div_self]
          · rw [Nat.mod_mod_of_dvd _ (Nat.dvd_mul_left H 2)]
        obtain ⟨g1, g2⟩ := g V
        obtain ⟨g3, g4⟩ := g V'
        rw [g1] at h1
        rw [g2] at h2
        rw [g3, g4, ← q]
        have hr : V % (2 * H) ≤ V' % (2 * H) := by
          rw [← q] at d2
          omega
        obtain ⟨r, hr1⟩ : ∃ r, V % (2 * H) = r := ⟨_, rfl⟩
        obtain ⟨r', hr2⟩ : ∃ r', V' % (2 * H) = r' := ⟨_, rfl⟩
        rw [hr1] at h1 h2 hr m1
        rw [hr2] at hr m2 ⊢
        have e1 : H ≤ r := by
          rcases Nat.lt_or_ge r H with c | c
          · rw [Nat.div_eq_of_lt c] at h1; omega
          · exact c
        have e2 : r' / H = 1 := by
          rw [Nat.div_eq_iff hH0]
          omega
        refine ⟨e2, ?_⟩
        rcases h2 with h2 | h2
        · exact .inl h2
        · right
          have s1 : r % H = r - H := by rw [Nat.mod_eq_sub_mod e1, Nat.mod_eq_of_lt (by omega)]
          have s2 : r' % H = r' - H := by rw [Nat.mod_eq_sub_mod (by omega), Nat.mod_eq_of_lt (by omega)]
          omega
      rw [this]
      simp
      omega
theorem fin1 {j j' qa qb ua ub : Nat} (hj : j < j') (hq : 4503599627370496 ≤ qb) (hv : qa < 9007199254740992) (hu : ua ≤ 1) : j * 4503599627370496 + qa + ua ≤ j' * 4503599627370496 + qb + ub := by omega
theorem fin2 {A qa qb ua ub : Nat} (h : qa + ua ≤ qb + ub) : A + qa + ua ≤ A + qb + ub := by omega
theorem fin3 {j V qb ub : Nat} (hj : 1 ≤ j) (hq : 4503599627370496 ≤ qb) (hv : V < 9007199254740992) : V ≤ j * 4503599627370496 + qb + ub := by omega
theorem round_mono {V V' : Nat} (h : V ≤ V') : roundB V ≤ roundB V' := by
  unfold roundB
  by_cases h1 : V < 9007199254740992
  · rw [if_pos h1]
    by_cases h2 : V' < 9007199254740992
    · rw [if_pos h2]; exact h
    · rw [if_neg h2]
      have hl : 53 ≤ V'.log2 := (Nat.le_log2 (by omega)).2 (by omega)
      have hd : 2 ^ (V'.log2 - 52) * 4503599627370496 ≤ V' := by
        rw [show (4503599627370496 : Nat) = 2 ^ 52 by rfl, ← Nat.pow_add, show V'.log2 - 52 + 52 = V'.log2 by omega]
        exact Nat.log2_self_le (by omega)
      have hq : 4503599627370496 ≤ V' / 2 ^ (V'.log2 - 52) := (Nat.le_div_iff_mul_le (Nat.two_pow_pos _)).2 (by rw [Nat.mul_comm]; exact hd)
      exact Nat.le_min.2 ⟨fin3 (show 1 ≤ V'.log2 - 52 by omega) hq h1, by omega⟩
  · rw [if_neg h1, if_neg (by omega)]
    refine Nat.le_min.2 ⟨Nat.le_trans (Nat.min_le_left _ _) ?_, Nat.min_le_right _ _⟩
    have hl : 53 ≤ V.log2 := (Nat.le_log2 (by omega)).2 (by omega)
    have hll : V.log2 ≤ V'.log2 := by
      rw [Nat.le_log2 (by omega)]
      exact Nat.le_trans (Nat.log2_self_le (by omega)) h
    rcases Nat.lt_or_eq_of_le hll with q | q
    · have hd : 2 ^ (V'.log2 - 52) * 4503599627370496 ≤ V' := by
        rw [show (4503599627370496 : Nat) = 2 ^ 52 by rfl, ← Nat.pow_add, show V'.log2 - 52 + 52 = V'.log2 by omega]
        exact Nat.log2_self_le (by omega)
      have hq : 4503599627370496 ≤ V' / 2 ^ (V'.log2 - 52) := (Nat.le_div_iff_mul_le (Nat.two_pow_pos _)).2 (by rw [Nat.mul_comm]; exact hd)
      have hv : V / 2 ^ (V.log2 - 52) < 9007199254740992 := by
        rw [Nat.div_lt_iff_lt_mul (Nat.two_pow_pos _), show (9007199254740992 : Nat) = 2 ^ 53 by rfl, ← Nat.pow_add, show 53 + (V.log2 - 52) = V.log2 + 1 by omega]
        exact Nat.lt_log2_self
      have hu : (upB V (V.log2 - 52)).toNat ≤ 1 := by cases upB V (V.log2 - 52) <;> simp
      exact fin1 (by omega) hq hv hu
    · rw [← q]
      have hm := up_mono h (show 1 ≤ V.log2 - 52 by omega)
      exact fin2 hm
end Go.Proofs.Ytjkdhckhokkefaa.Gg

/-
  Iterators that keep state of their own in cells, and hand over what lies in memory: a contract by two sets of blocks, and the law for a range over one.
-/
namespace Go.Proofs.Ytjkdhckhokkefaa
open Go.RowKit
/-- W' is W but for the blocks of X. -/
structure But (X : Nat → Prop) (W W' : World) : Prop where
  os : W'.os = W.os
  tape : W'.tape = W.tape
  output : W'.output = W.output
  size : W.heap.size ≤ W'.heap.size
  block : ∀ k, k < W.heap.size → ¬ X k → W'.heap[k]? = W.heap[k]?
theorem But.refl (X : Nat → Prop) (W : World) : But X W W := ⟨rfl, rfl, rfl, Nat.le_refl _, fun _ _ _ => rfl⟩
theorem But.trans {X : Nat → Prop} {A B C : World} (h : But X A B) (k : But X B C) : But X A C :=
  ⟨k.os.trans h.os, k.tape.trans h.tape, k.output.trans h.output, Nat.le_trans h.size k.size, fun i hi hx => (k.block i (Nat.lt_of_lt_of_le hi h.size) hx).trans (h.block i hi hx)⟩
theorem But.mono {X Y : Nat → Prop} {A B : World} (h : But X A B) (hs : ∀ k, k < A.heap.size → X k → Y k) : But Y A B :=
  ⟨h.os, h.tape, h.output, h.size, fun k hk hy => h.block k hk (fun hx => hy (hs k hk hx))⟩
theorem But.below {X : Nat → Prop} {A B : World} {n : Nat} (h : But X A B) (hn : n ≤ A.heap.size) (hX : ∀ k, X k → n ≤ k) : Below n A B :=
  ⟨h.os, h.tape, h.output, h.size, fun k hk => h.block k (Nat.lt_of_lt_of_le hk hn) (fun hx => Nat.lt_irrefl _ (Nat.lt_of_lt_of_le hk (hX k hx)))⟩
theorem But.of_below {A B : World} (h : Below A.heap.size A B) (X : Nat → Prop) : But X A B := ⟨h.os, h.tape, h.output, h.size, fun k hk _ => h.block k hk⟩
theorem But.of_grownBy {A B : World} {row : Option Nat} (h : A.grownBy B row) {X : Nat → Prop} (hX : ∀ k, row = some k → X k) : But X A B :=
  ⟨h.os, h.tape, h.output, h.size, fun k hk hx => h.block k hk (fun e => hx (hX k e.symm))⟩
theorem But.alloc (W : World) (o : Obj) (X : Nat → Prop) : But X W (W.alloc o) := But.of_below ((Below.refl _ W).alloc (Nat.le_refl _) o) X
/-- Behind a step that turns the blocks of X alone, what lay in a block outside lies there still. -/
theorem But.at {X : Nat → Prop} {A B : World} (h : But X A B) {k : Nat} {o : Obj} (hk : A.heap[k]? = some o) (hx : ¬ X k) : B.heap[k]? = some o :=
  (h.block k (Array.getElem?_eq_some_iff.1 hk).1 hx).trans hk
end Go.Proofs.Ytjkdhckhokkefaa

/-
  Go's + - * / of floating numbers by their bits: what is answered, or a NaN that is drawn.
-/
namespace Go.Proofs.Ytjkdhckhokkefaa.Gg
open Go.RowKit Rl
set_option linter.unusedVariables false
theorem hide {p : Prop} (h : p) : Hid p := h
def nanAt (w : World) (x y : Nat) : Nat := (Question.nanBits .f64 x y).cut (w.tape w.drawn (.nanBits .f64 x y))
theorem nan_at (w : World) (x y : Nat) : nanAt w x y < 18446744073709551616 ∧ nanB (nanAt w x y) = true := by
  have e : nanAt w x y = (w.tape w.drawn (.nanBits .f64 x y) % 2) * 2 ^ 63 + 9218868437227405312 + 1 + (w.tape w.drawn (.nanBits .f64 x y) / 2) % (2 ^ 52 - 1) := rfl
  rw [e]
  generalize w.tape w.drawn (.nanBits .f64 x y) = t
  have h1 : (t / 2) % (2 ^ 52 - 1) < 2 ^ 52 - 1 := Nat.mod_lt _ (by decide)
  generalize (t / 2) % (2 ^ 52 - 1) = a at *
  refine ⟨by omega, ?_⟩
  unfold nanB
  rw [decide_eq_true_eq]
  omega
/-- What an operation answers, its NaN the canonical one. -/
def cn : Option Nat → Nat
  | none => 9221120237041090561
  | some r => canonB r
/-- r is what the operation answers, or a NaN where it answers one. -/
def Is (o : Option Nat) (r : Nat) : Prop := r < 18446744073709551616 ∧ canonB r = cn o
theorem canon_nan {r : Nat} (h : nanB r = true) : canonB r = 9221120237041090561 := by unfold canonB; rw [if_pos h]
theorem canon_num {r : Nat} (h : nanB r = false) : canonB r = r := by unfold canonB; rw [if_neg (by simp [h])]
theorem nan_c : nanB 9221120237041090561 = true := by decide
theorem canon_lt {r : Nat} (h : r < 18446744073709551616) : canonB r < 18446744073709551616 := by unfold canonB; split <;> omega
theorem canon_idem (r : Nat) : canonB (canonB r) = canonB r := by
  cases h : nanB r
  · rw [canon_num h, canon_num h]
  · rw [canon_nan h, canon_nan nan_c]
theorem canon_eq {r s : Nat} (h : canonB r = canonB s) : (nanB r = true ∧ nanB s = true) ∨ r = s := by
  cases h1 : nanB r <;> cases h2 : nanB s
  · rw [canon_num h1, canon_num h2] at h; exact .inr h
  · rw [canon_num h1, canon_nan h2] at h; rw [h, nan_c] at h1; cases h1
  · rw [canon_nan h1, canon_num h2] at h; rw [← h, nan_c] at h2; cases h2
  · exact .inl ⟨rfl, rfl⟩
theorem cn_canon (o : Option Nat) : canonB (cn o) = cn o := by
  cases o with
  | none => decide
  | some r => exact canon_idem r
theorem Is.lt {o : Option Nat} {r : Nat} (h : Is o r) : r < 18446744073709551616 := h.1
def addB (x y : Nat) : Nat := cn (Ieee.double.add x y)
def subB (x y : Nat) : Nat := cn (Ieee.double.sub x y)
def mulB (x y : Nat) : Nat := cn (Ieee.double.mul x y)
def divB (x y : Nat) : Nat := cn (Ieee.double.div x y)
theorem add_nan {x y : Nat} (h : nanB x = true ∨ nanB y = true) : Ieee.double.add x y = none := by
  unfold Ieee.Format.add
  rcases h with h | h
  · obtain ⟨t, e⟩ := read_nan h; rw [e]; rfl
  · obtain ⟨t, e⟩ := read_nan h; rw [e]; cases Ieee.double.read x <;> rfl
theorem mul_nan {x y : Nat} (h : nanB x = true ∨ nanB y = true) : Ieee.double.mul x y = none := by
  unfold Ieee.Format.mul
  rcases h with h | h
  · obtain ⟨t, e⟩ := read_nan h; rw [e]; rfl
  · obtain ⟨t, e⟩ := read_nan h; rw [e]; cases Ieee.double.read x <;> rfl
theorem div_nan {x y : Nat} (h : nanB x = true ∨ nanB y = true) : Ieee.double.div x y = none := by
  unfold Ieee.Format.div
  rcases h with h | h
  · obtain ⟨t, e⟩ := read_nan h; rw [e]; rfl
  · obtain ⟨t, e⟩ := read_nan h; rw [e]; cases Ieee.double.read x <;> rfl
theorem add_same {x x' y y' : Nat} (h : canonB x = canonB x') (g : canonB y = canonB y') : Ieee.double.add x y = Ieee.double.add x' y' := by
  rcases canon_eq h with h | rfl
  · rw [add_nan (.inl h.1), add_nan (.inl h.2)]
  · rcases canon_eq g with g | rfl
    · rw [add_nan (.inr g.1), add_nan (.inr g.2)]
    · rfl
theorem mul_same {x x' y y' : Nat} (h : canonB x = canonB x') (g : canonB y = canonB y') : Ieee.double.mul x y = Ieee.double.mul x' y' := by
  rcases canon_eq h with h | rfl
  · rw [mul_nan (.inl h.1), mul_nan (.inl h.2)]
  · rcases canon_eq g with g | rfl
    · rw [mul_nan (.inr g.1), mul_nan (.inr g.2)]
    · rfl
theorem div_same {x x' y y' : Nat} (h : canonB x = canonB x') (g : canonB y = canonB y') : Ieee.double.div x y = Ieee.double.div x' y' := by
  rcases canon_eq h with h | rfl
  · rw [div_nan (.inl h.1), div_nan (.inl h.2)]
  · rcases canon_eq g with g | rfl
    · rw [div_nan (.inr g.1), div_nan (.inr g.2)]
    · rfl
theorem Is.c {o : Option Nat} {r : Nat} (h : Is o r) : canonB r = canonB (cn o) := by rw [h.2, cn_canon]
/-- Where an operand is what another operation answered. -/
theorem Is.add {x y r : Nat} {o : Option Nat} (hr : Is (Ieee.double.add x r) y) (h : Is o r) : canonB y = addB x (cn o) := by rw [hr.2, addB, add_same rfl h.c]
theorem Is.mul {x y r : Nat} {o : Option Nat} (hr : Is (Ieee.double.mul x r) y) (h : Is o r) : Is (Ieee.double.mul x (cn o)) y := ⟨hr.1, by rw [hr.2, mul_same rfl h.c]⟩
theorem Is.mul2 {x y r s : Nat} {o p : Option Nat} (hr : Is (Ieee.double.mul r s) y) (h : Is o r) (g : Is p s) : Is (Ieee.double.mul (cn o) (cn p)) y := ⟨hr.1, by rw [hr.2, mul_same h.c g.c]⟩
theorem Is.div {x y r : Nat} {o : Option Nat} (hr : Is (Ieee.double.div r x) y) (h : Is o r) : Is (Ieee.double.div (cn o) x) y := ⟨hr.1, by rw [hr.2, div_same h.c rfl]⟩
theorem is_some {o : Option Nat} {r : Nat} (h : o = some r) (hr : r < 18446744073709551616) : Is o r := ⟨hr, by rw [h]; rfl⟩
theorem is_none {o : Option Nat} (h : o = none) (w : World) (x y : Nat) : Is o (nanAt w x y) := ⟨(nan_at w x y).1, by rw [h, canon_nan (nan_at w x y).2]; rfl⟩
theorem add2 (x y : Nat) (w : World) : ∃ r n, (binOp .add 26 (.float .f64 x) (.float .f64 y)).run Try.prog w = .ok (.float .f64 r) (w.drewN n) ∧ Is (Ieee.double.add x y) r := by
  cases h2 : FloatKind.f64.format.add x y with
  | none => exact ⟨nanAt w x y, 1, by simp [binOp, Op.floatArith, h2, nanAt, Question.forced]; rfl, is_none h2 w x y⟩
  | some r => exact ⟨r, 0, by simp [binOp, Op.floatArith, h2]; rfl, is_some h2 (Ieee.Format.add_lt _ h2)⟩
theorem write_lt (d : Ieee.Datum) : Ieee.double.write d < 18446744073709551616 := by
  have hw : ∀ s r, r ≤ 9223372036854775807 → Ieee.double.word s r < 18446744073709551616 := fun s r hr => by rw [word_eq]; split <;> omega
  cases d with
  | number s m i =>
    show Ieee.double.nearest s m i < _
    unfold Ieee.Format.nearest
    split
    · exact hw _ _ (by omega)
    · exact hw _ _ (Nat.le_trans (Nat.min_le_right _ _) (by rw [fmt_inf]; omega))
  | infinity s => exact hw _ _ (by rw [fmt_inf]; omega)
  | nan s t => exact hw _ _ (by rw [fmt_inf, fmt_bin]; have := Nat.mod_lt t (show 0 < 4503599627370496 by omega); omega)
theorem map_lt {o : Option Ieee.Datum} {r : Nat} (h : o.map Ieee.double.write = some r) : r < 18446744073709551616 := by
  cases o with
  | none => cases h
  | some d => simp only [Option.map_some, Option.some.injEq] at h; rw [← h]; exact write_lt d
theorem sub2 (x y : Nat) (w : World) : ∃ r n, (binOp .sub 26 (.float .f64 x) (.float .f64 y)).run Try.prog w = .ok (.float .f64 r) (w.drewN n) ∧ Is (Ieee.double.sub x y) r := by
  cases h2 : FloatKind.f64.format.sub x y with
  | none => exact ⟨nanAt w x y, 1, by simp [binOp, Op.floatArith, h2, nanAt, Question.forced]; rfl, is_none h2 w x y⟩
  | some r => exact ⟨r, 0, by simp [binOp, Op.floatArith, h2]; rfl, is_some h2 (map_lt h2)⟩
theorem mul2 (x y : Nat) (w : World) : ∃ r n, (binOp .mul 26 (.float .f64 x) (.float .f64 y)).run Try.prog w = .ok (.float .f64 r) (w.drewN n) ∧ Is (Ieee.double.mul x y) r := by
  cases h2 : FloatKind.f64.format.mul x y with
  | none => exact ⟨nanAt w x y, 1, by simp [binOp, Op.floatArith, h2, nanAt, Question.forced]; rfl, is_none h2 w x y⟩
  | some r => exact ⟨r, 0, by simp [binOp, Op.floatArith, h2]; rfl, is_some h2 (map_lt h2)⟩
theorem div2 (x y : Nat) (w : World) : ∃ r n, (binOp .quo 26 (.float .f64 x) (.float .f64 y)).run Try.prog w = .ok (.float .f64 r) (w.drewN n) ∧ Is (Ieee.double.div x y) r := by
  cases h2 : FloatKind.f64.format.div x y with
  | none => exact ⟨nanAt w x y, 1, by simp [binOp, Op.floatArith, h2, nanAt, Question.forced]; rfl, is_none h2 w x y⟩
  | some r => exact ⟨r, 0, by simp [binOp, Op.floatArith, h2]; rfl, is_some h2 (map_lt h2)⟩
end Go.Proofs.Ytjkdhckhokkefaa.Gg

/-
  Smooth, of the program and of the document.
-/
namespace Go.Proofs.Ytjkdhckhokkefaa.Gg
open Go.RowKit Rl
set_option linter.unusedVariables false
/-- May it be a part of a way? -/
def alB (a : Nat) : Bool := decide (0 < a ∧ a ≤ 4607182418800017408)
/-- Smooth: the number, the error's. -/
def smB (v x a : Nat) : Nat := if nanB x then canonB v else if nanB v then x else addB v (mulB a (subB x v))
def smF (v x a : Nat) : Nat × Int := if alB a = false then (0, 1) else (smB v x a, 0)
/-- A number against a positive one, as Go compares. -/
def ordZ (a : Nat) : Option Ordering := FloatKind.f64.format.order a 0
def ordO (a : Nat) : Option Ordering := FloatKind.f64.format.order a 4607182418800017408
theorem al_cases {a : Nat} (ha : a < 18446744073709551616) : (alB a = true ∧ (ordZ a == some .gt) = true ∧ (ordO a == some .lt || ordO a == some .eq) = true) ∨ (alB a = false ∧ ((ordZ a == some .gt) = false ∨ (ordO a == some .lt || ordO a == some .eq) = false)) := by
  unfold ordZ ordO alB
  rcases fcase ha with h | h | h | h
  · right
    have := nan_big h
    refine ⟨by simp; omega, .inl ?_⟩
    rw [order_nan (.inl h)]; rfl
  · rw [ord_pos h (by omega), ord_pos h (by omega)]
    by_cases h0 : a = 0
    · right; subst h0; exact ⟨by decide, .inl (by decide)⟩
    · rw [cmp0 (by omega)]
      rcases Nat.lt_trichotomy a 4607182418800017408 with q | q | q
      · left; rw [Nat.compare_eq_lt.2 q]; exact ⟨by simp; omega, by decide, by decide⟩
      · left; subst q; exact ⟨by decide, by decide, by decide⟩
      · right; rw [Nat.compare_eq_gt.2 q]; exact ⟨by simp; omega, .inr (by decide)⟩
  · right
    subst h
    exact ⟨by decide, .inl (by rw [ord_mz (by omega)]; decide)⟩
  · right
    refine ⟨by simp; omega, .inl ?_⟩
    rw [ord_neg h.1 h.2 (by omega)]; rfl
theorem smooth_any (w : World) (v x a : Nat) (hv : v < 18446744073709551616) (hx : x < 18446744073709551616) (ha : a < 18446744073709551616) :
    Calls Try.prog 24 #[.float .f64 v, .float .f64 x, .float .f64 a] w fun e w' => e = .returned (.tuple #[.float .f64 (smF v x a).1, .int .i64 (smF v x a).2]) ∧ Below w.heap.size w w' := by
  have hN := fun u => mathIsNaN_any u x hx
  have hM := fun u => mathIsNaN_any u v hv
  have hC := fun u => canon_any u v hv
  obtain ⟨d, n1, e1, i1⟩ := sub2 x v w
  obtain ⟨m, n2, e2, i2⟩ := mul2 a d (w.drewN n1)
  rw [World.drewN_drewN] at e2
  obtain ⟨s, n3, e3, i3⟩ := add2 v m (w.drewN (n1 + n2))
  rw [World.drewN_drewN] at e3
  have hD := fun u => canon_any u s i3.lt
  have hs : Hid (canonB s = addB v (mulB a (subB x v))) := hide (i3.add (i2.mul i1))
  clear i1 i2 i3
  rcases al_cases ha with ⟨h0, h1, h2⟩ | ⟨h0, h1⟩
  · have hf : smF v x a = (smB v x a, 0) := by unfold smF; rw [if_neg (by simp [h0])]
    rw [hf]
    cases hn : nanB x
    · rw [hn] at hN
      cases hm : nanB v
      · rw [hm] at hM
        have hr : Hid (smB v x a = canonB s) := hide (by unfold smB; rw [if_neg (by simp [hn]), if_neg (by simp [hm]), hs.out])
        unfold ordZ ordO at *
        go_enter Try.func24, Try.ntmps24
        go_wp2_with (first | (go_at_call 26; first | (refine (hN _).mono ?_; rintro e w' ⟨rfl, hw⟩; rw [hw]; clear hw w') | (refine (hM _).mono ?_; rintro e w' ⟨rfl, hw⟩; rw [hw]; clear hw w')) | (go_at_call 48; refine (hD _).mono ?_; rintro e w' ⟨rfl, hw⟩; rw [hw]; clear hw w'))
        go_ret2
        exact ⟨by rw [hr.out]; rfl, below_drewN (Below.refl _ _) _⟩
      · rw [hm] at hM
        have hr : Hid (smB v x a = x) := hide (by unfold smB; rw [if_neg (by simp [hn]), if_pos hm])
        unfold ordZ ordO at *
        go_enter Try.func24, Try.ntmps24
        go_wp2_with (first | (go_at_call 26; first | (refine (hN _).mono ?_; rintro e w' ⟨rfl, hw⟩; rw [hw]; clear hw w') | (refine (hM _).mono ?_; rintro e w' ⟨rfl, hw⟩; rw [hw]; clear hw w')))
        go_ret2
        exact ⟨by rw [hr.out]; rfl, Below.refl _ _⟩
    · rw [hn] at hN
      have hr : Hid (smB v x a = canonB v) := hide (by unfold smB; rw [if_pos hn])
      unfold ordZ ordO at *
      go_enter Try.func24, Try.ntmps24
      go_wp2_with (first | (go_at_call 26; refine (hN _).mono ?_; rintro e w' ⟨rfl, hw⟩; rw [hw]; clear hw w') | (go_at_call 48; refine (hC _).mono ?_; rintro e w' ⟨rfl, hw⟩; rw [hw]; clear hw w'))
      go_ret2
      exact ⟨by rw [hr.out]; rfl, Below.refl _ _⟩
  · have hf : smF v x a = (0, 1) := by unfold smF; rw [if_pos h0]
    rw [hf]
    unfold ordZ ordO at *
    rcases h1 with h1 | h1
    · go_enter Try.func24, Try.ntmps24
      go_wp2_with fail
      go_ret2
      exact ⟨rfl, Below.refl _ _⟩
    · by_cases h3 : (FloatKind.f64.format.order a 0 == some .gt) = true
      · go_enter Try.func24, Try.ntmps24
        go_wp2_with fail
        go_ret2
        exact ⟨rfl, Below.refl _ _⟩
      · go_enter Try.func24, Try.ntmps24
        go_wp2_with fail
        go_ret2
        exact ⟨rfl, Below.refl _ _⟩
end Go.Proofs.Ytjkdhckhokkefaa.Gg

/-
  A region that draws its order, whose last call turns what the loads read: S is asked behind every operation but that one, for which all loads wait no more. (After the law of regions that hold loads beside calls: the same proof, but for the one operation.)
-/
namespace Go.Proofs.Ytjkdhckhokkefaa.Ix
open Go
variable {P : Program} {ops : Array Oper} {Q : Exit → Act → World → Prop} {md : Region.Mode} {S : World → Prop} {d : Nat}
/-- m waits for p, the next for m, and so on. -/
def pathB (md : Region.Mode) (ops : Array Oper) : Nat → List Nat → Bool
  | _, [] => true
  | p, m :: r => (match ops[m]? with | some o => o.after.any fun e => Region.binds md e && e.on == p | none => false) && pathB md ops m r
theorem not_ready {listed : Array Bool} : ∀ (ms : List Nat) (p : Nat), pathB md ops p ms = true → listed.getD p false = false → (∀ m ∈ ms, listed.getD m true = false) → ∀ m ∈ ms, m ∉ Region.ready md ops listed := by
  intro ms
  induction ms with
  | nil => intro p _ _ _ m hm; cases hm
  | cons a r ih =>
    intro p hp hl hu m hm
    rw [pathB, Bool.and_eq_true] at hp
    obtain ⟨h1, h2⟩ := hp
    have ha : a ∉ Region.ready md ops listed := fun hr => by
      obtain ⟨_, o, ho, hall⟩ := mem_ready.1 hr
      rw [ho] at h1
      simp only [Array.any_eq_true] at h1
      obtain ⟨i, hi, he⟩ := h1
      rw [Bool.and_eq_true] at he
      have := hall _ (Array.getElem_mem hi) he.1
      rw [show (o.after[i]).on = p by simpa using he.2, hl] at this
      cases this
    rcases List.mem_cons.1 hm with rfl | hm
    · exact ha
    · have hla : listed.getD a false = false := by
        have := hu a (by simp)
        by_cases hs : a < listed.size
        · simp [Array.getD, hs] at this ⊢; exact this
        · simp [Array.getD, hs]
      exact ih a h2 hla (fun m hm => hu m (by simp [hm])) m hm
/-- Whatever order is picked from here on, and S holds behind every operation that is carried out, but behind d. -/
def wpAnyT (P : Program) (md : Region.Mode) (ops : Array Oper) (Q : Exit → Act → World → Prop) (S : World → Prop) (d : Nat) : Nat → Array Bool → Act → World → Prop
  | 0, listed, a, w => Region.ready md ops listed = [] ∧ Q .normal a w
  | fuel + 1, listed, a, w =>
    (Region.ready md ops listed = [] → Q .normal a w) ∧
    ∀ i ∈ Region.ready md ops listed, wpOp P ops Q i (fun a' w' => ((listed.setIfInBounds i true).getD d false = false → S w') ∧ wpAnyT P md ops Q S d fuel (listed.setIfInBounds i true) a' w') a w
theorem wpAny_of_T : ∀ (fuel : Nat) (listed : Array Bool) (a : Act) (w : World), wpAnyT P md ops Q S d fuel listed a w → wpAny P md ops Q fuel listed a w
  | 0, _, _, _, h => h
  | fuel + 1, _, _, _, h => ⟨h.1, fun i hi => wpOp_mono (fun a' w' h' => wpAny_of_T fuel _ a' w' h'.2) (h.2 i hi)⟩
theorem getD_false {listed : Array Bool} {m : Nat} (h : listed.getD m true = false) : listed.getD m false = false := by
  by_cases hs : m < listed.size
  · simp [Array.getD, hs] at h ⊢; exact h
  · simp [Array.getD, hs]
theorem vac {b : Bool} {p : Prop} (hb : b = true) : b = false → p := fun h => by rw [hb] at h; cases h
theorem getD_unlisted {listed : Array Bool} {j m : Nat} (h : listed.getD m true = false) (hne : j ≠ m) : (listed.setIfInBounds j true).getD m true = false := by
  rw [getD_set_ne true hne]; exact h
theorem wpAnyT_first {i : Nat} {oi : Oper} {v : Value} {ms : List Nat} (hi : ops[i]? = some oi) (hsel : ∀ (j : Nat) (o : Oper) cs b, ops[j]? = some o → o.op ≠ .select cs b)
    (hQ : ∀ c a w, Q (.panic c) (a.put oi.dst v) w → Q (.panic c) a w) (hpath : pathB md ops i ms = true) (hdm : d ∈ ms) :
    ∀ (fuel : Nat) (listed : Array Bool) (a : Act) (w : World),
      (∀ j oj, ops[j]? = some oj → j ≠ i → listed.getD j true = false → (∀ e ∈ oj.after, Region.binds md e = true → e.on ≠ i) → oi.apart ops oj = true) →
      i ∈ Region.ready md ops listed → (∀ m ∈ ms, listed.getD m true = false) → YieldsIf P ops S oi v a → S w →
      wpAnyT P md ops Q S d fuel (listed.setIfInBounds i true) (a.put oi.dst v) w → wpAnyT P md ops Q S d (fuel + 1) listed a w := by
  intro fuel
  induction fuel with
  | zero =>
    intro listed a w _ hr _ hy hS H
    refine ⟨fun h => (by rw [h] at hr; cases hr), fun j hj => ?_⟩
    by_cases hji : j = i
    · subst hji; exact hy.wpOp hi hS ⟨fun _ => hS, H⟩
    · have := ready_mono hj hji
      rw [H.1] at this
      cases this
  | succ fuel ih =>
    intro listed a w hfree hr hms hy hS H
    refine ⟨fun h => (by rw [h] at hr; cases hr), fun j hj => ?_⟩
    by_cases hji : j = i
    · subst hji; exact hy.wpOp hi hS ⟨fun _ => hS, H⟩
    · have hil : listed.getD i false = false := by
        have := (mem_ready.1 hr).1
        by_cases hs : i < listed.size
        · simp [Array.getD, hs] at this ⊢; exact this
        · simp [Array.getD, hs]
      have hnm : j ∉ ms := fun h => not_ready ms i hpath hil hms j h hj
      have hjd : j ≠ d := fun e => hnm (by rw [e]; exact hdm)
      have hid : i ≠ d := fun e => not_ready ms i hpath hil hms d hdm (by rw [← e]; exact hr)
      have hdj : ((listed.setIfInBounds i true).setIfInBounds j true).getD d false = false := getD_false (getD_unlisted (getD_unlisted (hms d hdm) hid) hjd)
      have h1 := H.2 j (ready_mono hj hji)
      obtain ⟨hjun, oj, hoj, hall⟩ := mem_ready.1 hj
      have hnot : ∀ e ∈ oj.after, Region.binds md e = true → e.on ≠ i := fun e he hb heq => by
        have h1 := hall e he hb
        rw [heq, hil] at h1
        cases h1
      have h2 := wpOp_putIf hoj (hfree j oj hoj hji hjun hnot) (fun cs b => hsel i oi cs b hi) (fun cs b => hsel j oj cs b hoj) hQ hy h1
      have hfree' : ∀ k ok, ops[k]? = some ok → k ≠ i → (listed.setIfInBounds j true).getD k true = false →
          (∀ e ∈ ok.after, Region.binds md e = true → e.on ≠ i) → oi.apart ops ok = true := fun k ok hk hki hun hno => by
        refine hfree k ok hk hki ?_ hno
        by_cases hjk : j = k
        · subst hjk; exact hjun
        · rw [getD_set_ne true hjk] at hun; exact hun
      refine wpOp_mono (fun a' w' h3 => ⟨fun _ => h3.2.1 hdj, ih (listed.setIfInBounds j true) a' w' hfree' (ready_mono hr (Ne.symm hji)) (fun m hm => getD_unlisted (hms m hm) (fun e => hnm (by rw [e]; exact hm))) h3.1 (h3.2.1 hdj) ?_⟩) h2
      rw [Array.setIfInBounds_comm _ _ hji]
      exact h3.2.2
theorem wpAnyT_take {i : Nat} {oi : Oper} {v : Value} (ms : List Nat) {fuel : Nat} {listed : Array Bool} {a : Act} {w : World} (hi : ops[i]? = some oi)
    (hs : Region.noSelect ops = true) (hf : Region.free md ops listed i = true) (hr : (Region.ready md ops listed).contains i = true)
    (hp : (pathB md ops i ms && ms.contains d && ms.all fun m => listed.getD m true == false) = true)
    (hQ : ∀ c a w, Q (.panic c) (a.put oi.dst v) w → Q (.panic c) a w) (hy : YieldsIf P ops S oi v a) (hS : S w)
    (h : wpAnyT P md ops Q S d fuel (listed.setIfInBounds i true) (a.put oi.dst v) w) : wpAnyT P md ops Q S d (fuel + 1) listed a w := by
  simp only [Bool.and_eq_true, List.all_eq_true] at hp
  exact wpAnyT_first hi (Region.noSelect_spec hs) hQ hp.1.1 (by simpa using hp.1.2) fuel listed a w (Region.free_spec hi hf) (by simpa using hr) (fun m hm => by simpa using hp.2 m hm) hy hS h
/-- Only one may come up. -/
theorem wpAnyT_one {i : Nat} {o : Oper} {fuel : Nat} {listed : Array Bool} {a : Act} {w : World} (hr : Region.ready md ops listed = [i]) (ho : ops[i]? = some o)
    (h : ∀ K' : Act → World → Prop, Shut (∀ a w, ((listed.setIfInBounds i true).getD d false = false → S w) → wpAnyT P md ops Q S d fuel (listed.setIfInBounds i true) a w → K' a w) → if Region.wanted o (yielded ops a.tmps) = true then Oper.wp P o a w K' Q else K' (a.put o.dst undef) w) :
    wpAnyT P md ops Q S d (fuel + 1) listed a w := by
  refine ⟨fun h0 => (by rw [h0] at hr; cases hr), fun j hj => ?_⟩
  rw [hr, List.mem_singleton] at hj
  subst hj
  exact wpOp_step ho (fun K' hK => h K' (fun a w hS hW => hK a w ⟨hS, hW⟩))
theorem wpAnyT_done {listed : Array Bool} {a : Act} {w : World} (hr : Region.ready md ops listed = []) (h : Q .normal a w) : ∀ fuel, wpAnyT P md ops Q S d fuel listed a w
  | 0 => ⟨hr, h⟩
  | _ + 1 => ⟨fun _ => h, by rw [hr]; simp⟩
theorem wp_region_T {id : Nat} {a : Act} {w : World} (S : World → Prop) (d : Nat) (hm : P.follows .mixedOrders = true)
    (h : wpAnyT P .any ops Q S d ops.size (Array.replicate ops.size false) a w.drew) : (Code.region id ops true).wp P Q a w :=
  wp_region_any hm (wpAny_of_T _ _ _ _ h)
end Go.Proofs.Ytjkdhckhokkefaa.Ix

/-
  Gauges in memory: the program's and the document's lie alike.
-/
namespace Go.Proofs.Ytjkdhckhokkefaa.Gg
open Go.RowKit Rl
set_option linter.unusedVariables false
theorem keepF {w u v : World} (h : Below w.heap.size w u) (q : Below u.heap.size u v) : Below w.heap.size w v := h.trans (q.mono h.size)
theorem cell_of {w : World} {b j : Nat} {cs : Array Value} {T : TypeId} {z : Nat × Nat} (h : w.heap[b]? = some (.cells cs T z)) : w.cell? ⟨b, j, none⟩ = cs[j]? := by simp [World.cell?, h]
/-- What a gauge tells: how many, how many NaNs, the least, the greatest, the mean. -/
structure L where
  n : Int
  na : Int
  lo : Nat
  hi : Nat
  me : Nat
def L.val (l : L) : Value := .agg #[.int .i64 l.n, .int .i64 l.na, .float .f64 l.lo, .float .f64 l.hi, .float .f64 l.me]
def L0 : L := ⟨0, 0, 0, 0, 0⟩
structure G where
  bs : List Nat
  cs : List Int
  l : L
def ivals (l : List Int) : List Value := l.map fun n => .int .i64 n
theorem ivals_one (l : List Int) : ∀ u ∈ ivals l, u.oneCell' = true := by
  intro u hu
  simp only [ivals, List.mem_map] at hu
  obtain ⟨c, _, rfl⟩ := hu
  rfl
theorem fvals_one (l : List Nat) : ∀ u ∈ fvals l, u.oneCell' = true := by
  intro u hu
  simp only [fvals, List.mem_map] at hu
  obtain ⟨c, _, rfl⟩ := hu
  rfl
/-- Floats of one's own; whole numbers of one's own. -/
def Fw (B : Nat) (w : World) (v : Value) (l : List Nat) : Prop := w.ownsRow B 26 1 v l.length (fvals l)
def Iw (B : Nat) (w : World) (v : Value) (l : List Int) : Prop := w.ownsRow B 2 1 v l.length (ivals l)
theorem owns_but {X : Nat → Prop} {A B : World} {base e s n : Nat} {v : Value} {xs : List Value} (h : A.ownsRow base e s v n xs) (hb : But X A B) (hx : ∀ k, v.ownBlock = some k → ¬ X k) : B.ownsRow base e s v n xs := by
  refine ⟨h.1, ?_⟩
  rcases h.2 with h | ⟨g, cap, cur, rfl, hg, hh, r⟩
  · exact .inl h
  · exact .inr ⟨g, cap, cur, rfl, hg, hb.at hh (hx g rfl), r⟩
theorem owns_low {w : World} {b b' e s n : Nat} {v : Value} {xs : List Value} (h : w.ownsRow b e s v n xs) (hb : b' ≤ b) : w.ownsRow b' e s v n xs := by
  refine ⟨h.1, ?_⟩
  rcases h.2 with h | ⟨g, cap, cur, rfl, hg, hh, r⟩
  · exact .inl h
  · exact .inr ⟨g, cap, cur, rfl, Nat.le_trans hb hg, hh, r⟩
theorem owns_no {w : World} {base e s n : Nat} {v : Value} {xs : List Value} {b : Nat} {cs : Array Value} {T : TypeId} {fz : Nat × Nat} (h : w.ownsRow base e s v n xs) (hb : w.heap[b]? = some (.cells cs T fz)) (hT : T ≠ e) : v.ownBlock ≠ some b := fun e1 => by
  rcases h.2 with ⟨rfl, _⟩ | ⟨g, cap, cur, rfl, hg, hh, r⟩
  · simp [Value.ownBlock] at e1
  · simp [Value.ownBlock] at e1
    subst e1
    rw [hb] at hh
    simp at hh
    exact hT hh.2.1
theorem owns_apart {w : World} {base e s n : Nat} {v : Value} {xs : List Value} {base' e' s' n' : Nat} {v' : Value} {xs' : List Value} (h : w.ownsRow base e s v n xs) (h' : w.ownsRow base' e' s' v' n' xs') (hT : e ≠ e') : ∀ k, v.ownBlock = some k → v'.ownBlock ≠ some k := fun k hk => by
  rcases h.2 with ⟨rfl, _⟩ | ⟨g, cap, cur, rfl, hg, hh, r⟩
  · simp [Value.ownBlock] at hk
  · simp [Value.ownBlock] at hk
    subst hk
    exact owns_no h' hh hT
/-- A list of one's own that is not empty, as it is read. -/
theorem Fw.at {B : Nat} {w : World} {v : Value} {l : List Nat} (h : Fw B w v l) (hl : 0 < l.length) : ∃ bb ca, v = .slice (some ⟨bb, 0, none⟩) l.length ca ∧ ca ≤ 9223372036854775807 ∧ l.length ≤ ca ∧ bb < w.heap.size ∧ ∀ i, i < l.length → w.cell? ⟨bb, i, none⟩ = some (.float .f64 (l.getD i 0)) := by
  rcases h.2 with ⟨rfl, e⟩ | ⟨g, cap, cur, rfl, hg, hh, hn, hm, hs, ht⟩
  · omega
  · refine ⟨g, cap, rfl, by unfold maxLen at hm; omega, hn, heap_lt hh, fun i hi => ?_⟩
    rw [cell_of hh]
    have : (cur.toList.take (l.length * 1))[i]? = (fvals l)[i]? := by rw [ht]
    rw [List.getElem?_take_of_lt (by omega)] at this
    rw [show cur[i]? = cur.toList[i]? by simp, this]
    simp [fvals, hi]
theorem Iw.at {B : Nat} {w : World} {v : Value} {l : List Int} (h : Iw B w v l) (hl : 0 < l.length) : ∃ bb ca cur, v = .slice (some ⟨bb, 0, none⟩) l.length ca ∧ ca ≤ 9223372036854775807 ∧ l.length ≤ ca ∧ bb < w.heap.size ∧ w.heap[bb]? = some (.cells cur 2 (0, 0)) ∧ ∀ i, i < l.length → w.cell? ⟨bb, i, none⟩ = some (.int .i64 (l.getD i 0)) := by
  rcases h.2 with ⟨rfl, e⟩ | ⟨g, cap, cur, rfl, hg, hh, hn, hm, hs, ht⟩
  · omega
  · refine ⟨g, cap, cur, rfl, by unfold maxLen at hm; omega, hn, heap_lt hh, hh, fun i hi => ?_⟩
    rw [cell_of hh]
    have : (cur.toList.take (l.length * 1))[i]? = (ivals l)[i]? := by rw [ht]
    rw [List.getElem?_take_of_lt (by omega)] at this
    rw [show cur[i]? = cur.toList[i]? by simp, this]
    simp [ivals, hi]
theorem ivals_set (l : List Int) (k : Nat) (x : Int) : ivals (l.set k x) = (ivals l).set k (.int .i64 x) := by simp [ivals, List.map_set]
/-- One of them written over. -/
theorem Iw.set {B : Nat} {w : World} {b n ca : Nat} {l : List Int} (h : Iw B w (.slice (some ⟨b, 0, none⟩) n ca) l) (k : Nat) (x : Int) : Iw B (w.setCell ⟨b, k, none⟩ (.int .i64 x)) (.slice (some ⟨b, 0, none⟩) n ca) (l.set k x) := by
  rcases h.2 with ⟨e, _⟩ | ⟨g', cap, cur, e, hg, hh, a, b', c, d⟩
  · simp at e
  · simp at e
    obtain ⟨rfl, rfl, rfl⟩ := e
    have h1 : (w.setCell ⟨b, k, none⟩ (.int .i64 x)).heap[b]? = some (.cells (cur.setIfInBounds k (.int .i64 x)) 2 (0, 0)) := by rw [heap_setCell_same w b k _ _ _ hh]
    refine ⟨by simp [ivals], .inr ⟨b, ca, _, by rw [List.length_set], hg, h1, by rw [List.length_set]; exact a, b', by simpa using c, ?_⟩⟩
    rw [List.length_set, ivals_set, ← d]
    simp [List.take_set]
def gcells (g : G) (vb vc : Value) : Array Value := #[vb, vc, .int .i64 g.l.n, .int .i64 g.l.na, .float .f64 g.l.lo, .float .f64 g.l.hi, .float .f64 g.l.me]
/-- At block b lies a gauge (of type T), its bounds the list vb, its cells vc. -/
structure At (T : TypeId) (w : World) (b : Nat) (g : G) (vb vc : Value) : Prop where
  box : w.heap[b]? = some (.cells (gcells g vb vc) T (0, 0))
  rb : Fw 0 w vb g.bs
  rc : Iw 0 w vc g.cs
def Own (b : Nat) (vb vc : Value) : Nat → Prop := fun k => k = b ∨ vb.ownBlock = some k ∨ vc.ownBlock = some k
theorem At.but {T : TypeId} {Y : Nat → Prop} {A B : World} {b : Nat} {g : G} {vb vc : Value} (h : At T A b g vb vc) (hb : But Y A B) (hx : ∀ k, Own b vb vc k → ¬ Y k) : At T B b g vb vc :=
  ⟨hb.at h.box (hx b (.inl rfl)), owns_but h.rb hb fun k hk => hx k (.inr (.inl hk)), owns_but h.rc hb fun k hk => hx k (.inr (.inr hk))⟩
theorem At.below {T : TypeId} {A B : World} {b : Nat} {g : G} {vb vc : Value} (h : At T A b g vb vc) (hb : Below A.heap.size A B) : At T B b g vb vc := h.but (But.of_below hb fun _ => False) fun _ _ c => c
theorem At.lt {T : TypeId} {w : World} {b : Nat} {g : G} {vb vc : Value} (h : At T w b g vb vc) : ∀ k, Own b vb vc k → k < w.heap.size := fun k hk => by
  rcases hk with rfl | hk | hk
  · exact heap_lt h.box
  · exact (World.ownsRow.lt h.rb k hk).2
  · exact (World.ownsRow.lt h.rc k hk).2
theorem At.cells {T : TypeId} {w : World} {b : Nat} {g : G} {vb vc : Value} (h : At T w b g vb vc) : w.cell? ⟨b, 0, none⟩ = some vb ∧ w.cell? ⟨b, 1, none⟩ = some vc ∧ w.cell? ⟨b, 2, none⟩ = some (.int .i64 g.l.n) ∧ w.cell? ⟨b, 3, none⟩ = some (.int .i64 g.l.na) ∧ w.cell? ⟨b, 4, none⟩ = some (.float .f64 g.l.lo) ∧ w.cell? ⟨b, 5, none⟩ = some (.float .f64 g.l.hi) ∧ w.cell? ⟨b, 6, none⟩ = some (.float .f64 g.l.me) := by
  refine ⟨?_, ?_, ?_, ?_, ?_, ?_, ?_⟩ <;> (rw [cell_of h.box]; rfl)
theorem At.frozen {T : TypeId} {w : World} {b : Nat} {g : G} {vb vc : Value} (h : At T w b g vb vc) (j : Nat) : w.frozen? ⟨b, j, none⟩ = false := by simp [World.frozen?, h.box]
theorem At.nb {w : World} {b : Nat} {g : G} {vb vc : Value} {T : TypeId} (h : At T w b g vb vc) (hT : T ≠ 26) : vb.ownBlock ≠ some b := owns_no h.rb h.box hT
theorem At.nc {w : World} {b : Nat} {g : G} {vb vc : Value} {T : TypeId} (h : At T w b g vb vc) (hT : T ≠ 2) : vc.ownBlock ≠ some b := owns_no h.rc h.box hT
theorem At.bc {w : World} {b : Nat} {g : G} {vb vc : Value} {T : TypeId} (h : At T w b g vb vc) : ∀ k, vb.ownBlock = some k → vc.ownBlock ≠ some k := owns_apart h.rb h.rc (by decide)
/-- How a step turns: the gauge's own block and its cells. -/
def Tur (b : Nat) (vc : Value) : Nat → Prop := fun k => k = b ∨ vc.ownBlock = some k
end Go.Proofs.Ytjkdhckhokkefaa.Gg

/-
  Lists cloned; bounds that rise; New. (gen_GgC.py)
-/
namespace Go.Proofs.Ytjkdhckhokkefaa.Gg
open Go.RowKit Rl
open Ix (wp_region_T wpAnyT wpAnyT_take wpAnyT_one wpAnyT_done vac)
set_option linter.unusedVariables false
/-- Two may come up; what both leave is told by G. -/
theorem wpAnyT_pair {P : Program} {ops : Array Oper} {Q : Exit → Act → World → Prop} {md : Region.Mode} {S : World → Prop} {d : Nat} {i j : Nat} {oi oj : Oper} {fuel : Nat} {listed : Array Bool} {a : Act} {w : World} (G : Value → Value → World → Prop) (hij : i ≠ j) (hr : Region.ready md ops listed = [i, j]) (hoi : ops[i]? = some oi) (hoj : ops[j]? = some oj)
    (hri : Region.ready md ops (listed.setIfInBounds i true) = [j]) (hrj : Region.ready md ops (listed.setIfInBounds j true) = [i])
    (hcomm : ∀ vi vj, (a.put oj.dst vj).put oi.dst vi = (a.put oi.dst vi).put oj.dst vj)
    (hI : ∀ K' : Act → World → Prop, Shut (∀ vi w1, S w1 → (∀ K2 : Act → World → Prop, Shut (∀ vj w2, G vi vj w2 → K2 ((a.put oi.dst vi).put oj.dst vj) w2) → if Region.wanted oj (yielded ops (a.put oi.dst vi).tmps) = true then Oper.wp P oj (a.put oi.dst vi) w1 K2 Q else K2 ((a.put oi.dst vi).put oj.dst undef) w1) → K' (a.put oi.dst vi) w1) → if Region.wanted oi (yielded ops a.tmps) = true then Oper.wp P oi a w K' Q else K' (a.put oi.dst undef) w)
    (hJ : ∀ K' : Act → World → Prop, Shut (∀ vj w1, S w1 → (∀ K2 : Act → World → Prop, Shut (∀ vi w2, G vi vj w2 → K2 ((a.put oj.dst vj).put oi.dst vi) w2) → if Region.wanted oi (yielded ops (a.put oj.dst vj).tmps) = true then Oper.wp P oi (a.put oj.dst vj) w1 K2 Q else K2 ((a.put oj.dst vj).put oi.dst undef) w1) → K' (a.put oj.dst vj) w1) → if Region.wanted oj (yielded ops a.tmps) = true then Oper.wp P oj a w K' Q else K' (a.put oj.dst undef) w)
    (hG : ∀ vi vj w2, G vi vj w2 → S w2)
    (h : ∀ vi vj w2, G vi vj w2 → wpAnyT P md ops Q S d fuel ((listed.setIfInBounds i true).setIfInBounds j true) ((a.put oi.dst vi).put oj.dst vj) w2) :
    wpAnyT P md ops Q S d (fuel + 1 + 1) listed a w := by
  refine ⟨fun h0 => (by rw [h0] at hr; cases hr), fun k hk => ?_⟩
  rw [hr] at hk
  simp only [List.mem_cons, List.not_mem_nil, or_false] at hk
  rcases hk with rfl | rfl
  · refine wpOp_step hoi (fun K' hK => hI K' (fun vi w1 hS hrest => hK _ w1 ⟨fun _ => hS, ?_⟩))
    refine wpAnyT_one hri hoj (fun K2 hK2 => hrest K2 (fun vj w2 hg => hK2 _ w2 (fun _ => hG vi vj w2 hg) (h vi vj w2 hg)))
  · refine wpOp_step hoj (fun K' hK => hJ K' (fun vj w1 hS hrest => hK _ w1 ⟨fun _ => hS, ?_⟩))
    refine wpAnyT_one hrj hoi (fun K2 hK2 => hrest K2 (fun vi w2 hg => hK2 _ w2 (fun _ => hG vi vj w2 hg) ?_))
    rw [hcomm, Array.setIfInBounds_comm _ _ (Ne.symm hij)]
    exact h vi vj w2 hg
theorem infoI64 : (Try.prog.info? 2).map (fun i => (i.zero, i.size, i.bytes)) = some (some (.int .i64 0), 1, 8) := by kernel_rfl
/-- A list as its cells. -/
theorem row_news {w : World} {ad : Addr} {n ca : Nat} {vs : List Value} (h : Row w (.slice (some ad) n ca) vs) : ∀ j u, vs[j]? = some u → w.cell? (ad.add j) = some u := by
  obtain ⟨ao, cap, e, _, _, _, h5⟩ := h
  simp only [Value.slice.injEq] at e
  obtain ⟨rfl, _, rfl⟩ := e
  intro j u hu
  have hj : j < vs.length := (List.getElem?_eq_some_iff.1 hu).1
  obtain ⟨b, off, e1, hc⟩ := h5 j hj
  simp only [Option.some.injEq] at e1
  subst e1
  have e2 : vs[j] = u := (List.getElem?_eq_some_iff.1 hu).2
  rw [addr_add, hc, e2]
theorem clone_f (w : World) (v : Value) (l : List Nat) (hv : Row w v (fvals l)) (hl : l.length ≤ 100) :
    Calls Try.prog 30 #[v] w fun e w' => ∃ v', e = .returned v' ∧ Fw w.heap.size w' v' l ∧ Below w.heap.size w w' := by
  have he := fun (u : World) (ao : Option Addr) (n c n' c' : Nat) => Lib.run_eql_slice_nil (P := Try.prog) u 24 26 ao n c n' c' Try.underlying24
  have hv0 := hv
  obtain ⟨ao, ca, rfl, h1, h2, h3, _⟩ := hv0
  have hfl : (fvals l).length = l.length := by simp [fvals]
  rw [hfl] at hv h2 ⊢
  cases ao with
  | none =>
    obtain ⟨e0, rfl⟩ := h1 rfl
    have e1 : l = [] := by simpa [fvals] using e0
    subst e1
    simp only [List.length_nil]
    go_enter Try.func30, Try.ntmps30
    go_wp2_with fail
    go_ret
    exact ⟨_, rfl, World.ownsRow_nil _ _ _ _, Below.refl _ _⟩
  | some ad =>
    have HN := hide (fun o => row_news (Below.row (box_below w o) hv))
    obtain ⟨i0, hi, hz0, hz1, hz2⟩ := info_parts Try.infoF64
    have OWN := hide (World.ownsRow_made (base := w.heap.size) (e := 26) (size := 1) w #[] 0 (Nat.le_refl _) (Nat.zero_le _) rfl)
    have hcl : Hid ((fvals l).length = l.length * 1) := hide (by rw [hfl, Nat.mul_one])
    obtain ⟨N, hN⟩ : ∃ N, Hid (l.length = N) := ⟨_, rfl⟩
    rw [hN.out] at hcl hl hfl ⊢
    clear hv h1 h2 h3 hfl
    go_enter Try.func30, Try.ntmps30
    go_wp2_with (at_builtin; refine wpList_append_own_at _ rfl (.tmp 5) (.tmp 6) 24 rfl w.heap.size 26 i0 (.float .f64 0) 1 8 Try.underlying24 hi hz0 hz1 hz2 rfl (by decide) _ 0 [] rfl OWN.out ad N ca (fvals l) rfl hcl.out (HN.out _) (fvals_one l) (by unfold maxLen; omega) (by omega) (by simp) ?_; intro v' w1 hown' hgrow hnil hat; rw [List.nil_append, Nat.zero_add] at hown'; replace hown' := hide hown'; have hgr := hide hgrow; clear hgrow hnil hat)
    go_ret
    refine ⟨_, rfl, ?_, ?_⟩
    · unfold Fw; rw [hN.out]; exact hown'.out
    · exact Below.grown (box_below w _) hgr.out (by simp) (fun k hk => by cases hk; exact Nat.le_refl _)
theorem clone_i (w : World) (v : Value) (l : List Int) (hv : Row w v (ivals l)) (hl : l.length ≤ 100) :
    Calls Try.prog 44 #[v] w fun e w' => ∃ v', e = .returned v' ∧ Iw w.heap.size w' v' l ∧ Below w.heap.size w w' := by
  have he := fun (u : World) (ao : Option Addr) (n c n' c' : Nat) => Lib.run_eql_slice_nil (P := Try.prog) u 41 2 ao n c n' c' Try.underlying41
  have hv0 := hv
  obtain ⟨ao, ca, rfl, h1, h2, h3, _⟩ := hv0
  have hfl : (ivals l).length = l.length := by simp [ivals]
  rw [hfl] at hv h2 ⊢
  cases ao with
  | none =>
    obtain ⟨e0, rfl⟩ := h1 rfl
    have e1 : l = [] := by simpa [ivals] using e0
    subst e1
    simp only [List.length_nil]
    go_enter Try.func44, Try.ntmps44
    go_wp2_with fail
    go_ret
    exact ⟨_, rfl, World.ownsRow_nil _ _ _ _, Below.refl _ _⟩
  | some ad =>
    have HN := hide (fun o => row_news (Below.row (box_below w o) hv))
    obtain ⟨i0, hi, hz0, hz1, hz2⟩ := info_parts infoI64
    have OWN := hide (World.ownsRow_made (base := w.heap.size) (e := 2) (size := 1) w #[] 0 (Nat.le_refl _) (Nat.zero_le _) rfl)
    have hcl : Hid ((ivals l).length = l.length * 1) := hide (by rw [hfl, Nat.mul_one])
    obtain ⟨N, hN⟩ : ∃ N, Hid (l.length = N) := ⟨_, rfl⟩
    rw [hN.out] at hcl hl hfl ⊢
    clear hv h1 h2 h3 hfl
    go_enter Try.func44, Try.ntmps44
    go_wp2_with (at_builtin; refine wpList_append_own_at _ rfl (.tmp 5) (.tmp 6) 41 rfl w.heap.size 2 i0 (.int .i64 0) 1 8 Try.underlying41 hi hz0 hz1 hz2 rfl (by decide) _ 0 [] rfl OWN.out ad N ca (ivals l) rfl hcl.out (HN.out _) (ivals_one l) (by unfold maxLen; omega) (by omega) (by simp) ?_; intro v' w1 hown' hgrow hnil hat; rw [List.nil_append, Nat.zero_add] at hown'; replace hown' := hide hown'; have hgr := hide hgrow; clear hgrow hnil hat)
    go_ret
    refine ⟨_, rfl, ?_, ?_⟩
    · unfold Iw; rw [hN.out]; exact hown'.out
    · exact Below.grown (box_below w _) hgr.out (by simp) (fun k hk => by cases hk; exact Nat.le_refl _)
theorem getD_mem {l : List Nat} {i : Nat} (h : i < l.length) : l.getD i 0 ∈ l := by
  rw [show l.getD i 0 = l[i] by simp [h]]
  exact List.getElem_mem h
/-- The bound at i is no NaN, and stands behind the one ahead. -/
def okAt (l : List Nat) (i : Nat) : Bool := !nanB (l.getD i 0) && (decide (i = 0) || decide (cmpB (l.getD (i - 1) 0) (l.getD i 0) < 0))
def Rises (l : List Nat) : Prop := ∀ i, i < l.length → okAt l i = true
theorem rise_any (w : World) (v : Value) (l : List Nat) (hx : Row w v (fvals l)) (hb : Bs l) :
    Calls Try.prog 29 #[v] w fun e w' => w' = w ∧ ((e = .returned (.bool true) ∧ Rises l) ∨ (e = .returned (.bool false) ∧ ¬ Rises l)) := by
  obtain ⟨ao, cap, rfl, h1, h2, h3, h4⟩ := hx
  have hlen : (fvals l).length = l.length := by simp [fvals]
  have h4' : Hid (Go.Proofs.Ytjkdhckhokkefaa.At w ao (fvals l)) := h4
  rw [hlen] at h2 ⊢
  have hn47 : l.length ≤ 9223372036854775807 := by unfold maxLen at h3; omega
  clear h1 h4 hlen h2 h3
  obtain ⟨n, hn⟩ : ∃ n, Hid (l.length = n) := ⟨_, rfl⟩
  rw [hn.out] at hn47 ⊢
  replace hb : Hid (Bs l) := hb
  go_enter Try.func29, Try.ntmps29
  go_wp2_with fail
  go_loopw [7] (fun v7 wr => ∃ i : Nat, i ≤ n ∧ v7 = .int .i64 (i : Int) ∧ Hid (∀ j, j < i → okAt l j = true) ∧ wr = w) (fun v _ => n - (intOf v).toNat)
  case atStart => exact ⟨0, by omega, rfl, fun j hj => by omega, rfl⟩
  case round =>
    obtain ⟨i, hi, rfl, hf, rfl⟩ := hrel
    by_cases hin : i = n
    · subst hin
      have FIN : Hid (Rises l) := fun j hj => hf.out j (by have := hn.out; omega)
      go_wp2
      go_ret
      exact ⟨rfl, .inl ⟨rfl, FIN.out⟩⟩
    · have hil : i < l.length := by have := hn.out; omega
      obtain ⟨x, hx⟩ : ∃ x, Hid (l.getD i 0 = x) := ⟨_, rfl⟩
      obtain ⟨y, hy⟩ : ∃ y, Hid (l.getD (i - 1) 0 = y) := ⟨_, rfl⟩
      obtain ⟨rb, off, rfl, hcell⟩ := h4'.out i (by simp [fvals]; omega)
      have hcx : wr.cell? ⟨rb, off + i, none⟩ = some (.float .f64 x) := by
        rw [hcell, ← hx.out]
        simp [fvals, hil]
      have hxl : Hid (x < 18446744073709551616) := hb.out x (by rw [← hx.out]; exact getD_mem hil)
      have hyl : Hid (y < 18446744073709551616) := hb.out y (by rw [← hy.out]; exact getD_mem (by omega))
      clear hcell
      have i1 : (i : Int) < (n : Int) := by omega
      have i2 : (0 : Int) ≤ (i : Int) := by omega
      cases hnx : nanB x
      · by_cases hi0 : i = 0
        · subst hi0
          have hok : Hid (okAt l 0 = true) := hide (by unfold okAt; rw [hx.out, hnx]; rfl)
          rw [Nat.add_zero] at hcx
          go_wp2_with (go_at_call 26; refine (mathIsNaN_any _ x hxl.out).mono ?_; rw [hnx]; rintro e w2 ⟨rfl, rfl⟩)
          go_roundw
          case rel => exact ⟨0 + 1, by omega, by go_num, fun j hj => by rw [show j = 0 by omega]; exact hok.out, by trivial⟩
          case measure => simp [intOf]; omega
        · obtain ⟨rb2, off2, e2, hcell2⟩ := h4'.out (i - 1) (by simp [fvals]; omega)
          simp only [Option.some.injEq, Addr.mk.injEq] at e2
          obtain ⟨rfl, rfl, _⟩ := e2
          have hcy : wr.cell? ⟨rb, off + (i - 1), none⟩ = some (.float .f64 y) := by
            rw [hcell2, ← hy.out]
            simp [fvals, show i - 1 < l.length by omega]
          clear hcell2
          have i3 : ((0 : Int) < (i : Int)) := by omega
          have i4 : IntKind.i64.wrap ((i : Int) - 1) = ((i - 1 : Nat) : Int) := by rw [show ((i - 1 : Nat) : Int) = (i : Int) - 1 by omega]; simp [IntKind.wrap, IntKind.bits, IntKind.signed]; omega
          have i5 : ((i - 1 : Nat) : Int) < (n : Int) := by omega
          have i6 : (0 : Int) ≤ ((i - 1 : Nat) : Int) := by omega
          obtain ⟨c, hc⟩ : ∃ c, Hid (cmpB y x = c) := ⟨_, rfl⟩
          have hC : Hid (∀ u, Calls Try.prog 35 #[.float .f64 y, .float .f64 x] u fun e w' => e = .returned (.int .i64 c) ∧ w' = u) := hide (fun u => by rw [← hc.out]; exact compare_any u y x hyl.out hxl.out)
          have hlt : c < 0 → cmpB (l.getD (i - 1) 0) x < 0 := fun h => by rw [hy.out, hc.out]; exact h
          have hge : 0 ≤ c → okAt l i = false := fun h => by unfold okAt; rw [hx.out, hy.out, hc.out]; simp [hi0]; omega
          replace hlt := hide hlt
          replace hge := hide hge
          clear hy
          clear hi0
          obtain ⟨k, hk⟩ : ∃ k, Hid (i - 1 = k) := ⟨_, rfl⟩
          rw [hk.out] at hcy i4 i5 i6
          by_cases h0 : c < 0
          · have hok : Hid (okAt l i = true) := hide (by unfold okAt; rw [hx.out, hnx]; simp only [Bool.not_false, Bool.true_and, Bool.or_eq_true, decide_eq_true_eq]; right; exact hlt.out h0)
            have h1 : ¬ (0 ≤ c) := by omega
            clear h0
            go_wp2_with (first | (go_at_call 26; refine (mathIsNaN_any _ x hxl.out).mono ?_; rw [hnx]; rintro e w2 ⟨rfl, rfl⟩) | (go_at_call 35; refine (hC.out _).mono ?_; rintro e w2 ⟨rfl, rfl⟩))
            go_roundw
            case rel => exact ⟨i + 1, by omega, by go_num, fun j hj => by
              by_cases e : j = i
              · rw [e]; exact hok.out
              · exact hf.out j (by omega), by trivial⟩
            case measure => simp [intOf]; omega
          · have hok : Hid (okAt l i = false) := hide (hge.out (by omega))
            have h1 : (0 ≤ c) := by omega
            go_wp2_with (first | (go_at_call 26; refine (mathIsNaN_any _ x hxl.out).mono ?_; rw [hnx]; rintro e w2 ⟨rfl, rfl⟩) | (go_at_call 35; refine (hC.out _).mono ?_; rintro e w2 ⟨rfl, rfl⟩))
            go_ret
            exact ⟨rfl, .inr ⟨rfl, fun h => by have := h i hil; rw [hok.out] at this; cases this⟩⟩
      · have hok : Hid (okAt l i = false) := hide (by unfold okAt; rw [hx.out, hnx]; rfl)
        go_wp2_with (go_at_call 26; refine (mathIsNaN_any _ x hxl.out).mono ?_; rw [hnx]; rintro e w2 ⟨rfl, rfl⟩)
        go_ret
        exact ⟨rfl, .inr ⟨rfl, fun h => by have := h i hil; rw [hok.out] at this; cases this⟩⟩
end Go.Proofs.Ytjkdhckhokkefaa.Gg

/-
  New of the gauge. (gen_GgD.py)
-/
namespace Go.Proofs.Ytjkdhckhokkefaa.Gg
open Go.RowKit Rl
open Ix (wp_region_T wpAnyT wpAnyT_take wpAnyT_one wpAnyT_done vac)
set_option linter.unusedVariables false
theorem owns_below {A B : World} {base e s n : Nat} {v : Value} {xs : List Value} (h : A.ownsRow base e s v n xs) (hb : Below A.heap.size A B) : B.ownsRow base e s v n xs := owns_but h (But.of_below hb fun _ => False) fun _ _ c => c
theorem owns_form {w : World} {base e s n : Nat} {v : Value} {xs : List Value} (h : w.ownsRow base e s v n xs) : ∃ ao n ca, v = .slice ao n ca := by
  rcases h.2 with ⟨rfl, _⟩ | ⟨g, cap, cur, rfl, _⟩
  · exact ⟨_, _, _, rfl⟩
  · exact ⟨_, _, _, rfl⟩
/-- A gauge that was told nothing. -/
def g0 (l : List Nat) : G := ⟨l, List.replicate (l.length + 1) 0, L0⟩
theorem make_ints (n : Nat) (hn : n ≤ 65536) : ∃ C : Array Value, (∀ u : World, (Instr.makeSlice 41 (.int .i64 (n : Int)) (.int .i64 (n : Int))).run Try.prog u = .ok (.slice (some ⟨u.heap.size, 0, none⟩) n n) (u.alloc (.cells C 2))) ∧ ∀ u : World, Iw u.heap.size (u.alloc (.cells C 2)) (.slice (some ⟨u.heap.size, 0, none⟩) n n) (List.replicate n 0) := by
  obtain ⟨i0, hi, hz0, hz1, hz2⟩ := info_parts infoI64
  refine ⟨madeCells #[.int .i64 0] n, fun u => ?_, fun u => ?_⟩
  · rw [run_make u 41 2 i0 (.int .i64 0) Try.underlying41 hi hz0 .i64 .i64 (n : Int) (n : Int) (by omega) (by omega) (by rw [hz2]; omega) (by omega), hz1]
    simp only [Int.toNat_natCast, Nat.mul_one]
    rfl
  · refine ⟨by simp [ivals], .inr ⟨u.heap.size, n, _, by simp, Nat.le_refl _, heap_alloc_new u _, by simp, by unfold maxLen; omega, by rw [size_madeCells, Nat.mul_one], ?_⟩⟩
    rw [toList_madeCells_one]
    simp [ivals]
theorem new_any (w : World) (v : Value) (l : List Nat) (hx : Row w v (fvals l)) (hb : Bs l) :
    Calls Try.prog 10 #[v] w fun e w' => Below w.heap.size w w' ∧ ((64 < l.length ∧ e = .returned (.tuple #[.pointer none, .int .i64 9])) ∨ (l.length ≤ 64 ∧ ¬ Rises l ∧ e = .returned (.tuple #[.pointer none, .int .i64 1])) ∨ (l.length ≤ 64 ∧ Rises l ∧ ∃ b vb vc, e = .returned (.tuple #[.pointer (some ⟨b, 0, none⟩), .int .i64 0]) ∧ At 64 w' b (g0 l) vb vc ∧ ∀ k, Own b vb vc k → w.heap.size ≤ k)) := by
  have hr := hide (rise_any w v l hx hb)
  have HX := hide hx
  obtain ⟨ao, ca, rfl, h1, h2, h3, _⟩ := hx
  have hfl : (fvals l).length = l.length := by simp [fvals]
  rw [hfl] at hr HX h2 ⊢
  clear h1 hb
  unfold maxLen at h3
  obtain ⟨n, hN⟩ : ∃ n, Hid (l.length = n) := ⟨_, rfl⟩
  rw [hN.out] at hr HX h2 ⊢
  clear hfl
  have hnm0 : n ≤ 9223372036854775807 := by omega
  clear h2 h3
  by_cases hnm : 64 < n
  · have k1 : (64 : Int) < (n : Int) := by omega
    go_enter Try.func10, Try.ntmps10
    go_wp2_with fail
    go_ret2
    exact ⟨Below.refl _ _, .inl ⟨hnm, rfl⟩⟩
  · have k1 : ¬ (64 : Int) < (n : Int) := by omega
    replace hnm : n ≤ 64 := by omega
    go_enter Try.func10, Try.ntmps10
    go_upto_region 3 with fail
    go_wp2_with fail
    go_at_call 29
    refine hr.out.mono ?_
    rintro e w' ⟨hw, ⟨rfl, hR⟩ | ⟨rfl, hR⟩⟩ <;> rw [hw] <;> clear hw w'
    · have HR := hide hR
      obtain ⟨m, hm⟩ : ∃ m, Hid (n + 1 = m) := ⟨_, rfl⟩
      obtain ⟨C, hM, hO⟩ := make_ints m (by have := hm.out; omega)
      have HM := hide hM
      have HO := hide hO
      have hl : Hid (l.length ≤ 100) := hide (by rw [hN.out]; omega)
      have k2 : IntKind.i64.wrap ((n : Int) + 1) = (m : Int) := by rw [← hm.out]; simp [IntKind.wrap, IntKind.bits, IntKind.signed]; omega
      clear hr hR hM hO
      go_upto_region 5 with fail
      refine wp_region_T (fun q => Below w.heap.size w q) 9 (by kernel_rfl) ?_
      have KP : Hid (Below w.heap.size w w.drew) := (Below.refl _ _).drew
      generalize w.drew = q at *
      refine wpAnyT_take (i := 0) (oi := { dst := some 12, op := Op.move (Operand.tmp 0), type := 24, pos := "gauge.go:29", after := #[], guard := none }) (v := .slice ao n ca) [1, 6, 7, 8, 9] rfl (by kernel_rfl) (by kernel_rfl) (by kernel_rfl) (by kernel_rfl) (fun _ _ _ h => h) (Or.inl ⟨by rfl, ?_⟩) KP.out ?_
      · intro wq hSw
        skip
        go_simp
      (try simp only [Act.put, List.setIfInBounds_toArray, List.set_cons_zero, List.set_cons_succ])
      refine wpAnyT_take (i := 2) (oi := { dst := some 14, op := Op.move (Operand.tmp 0), type := 24, pos := "gauge.go:29", after := #[], guard := none }) (v := .slice ao n ca) [3, 4, 5, 6, 7, 8, 9] rfl (by kernel_rfl) (by kernel_rfl) (by kernel_rfl) (by kernel_rfl) (fun _ _ _ h => h) (Or.inl ⟨by rfl, ?_⟩) KP.out ?_
      · intro wq hSw
        skip
        go_simp
      (try simp only [Act.put, List.setIfInBounds_toArray, List.set_cons_zero, List.set_cons_succ])
      refine wpAnyT_take (i := 3) (oi := { dst := some 15, op := Op.call { callee := Callee.builtin Builtin.len, args := #[Operand.tmp 14], argTypes := #[24] }, type := 3, pos := "gauge.go:29", after := #[{ on := 2, ground := Ground.data }], guard := none }) (v := .int .i64 (n : Int)) [4, 5, 6, 7, 8, 9] rfl (by kernel_rfl) (by kernel_rfl) (by kernel_rfl) (by kernel_rfl) (fun _ _ _ h => h) (Or.inl ⟨by rfl, ?_⟩) KP.out ?_
      · intro wq hSw
        skip
        go_simp
      (try simp only [Act.put, List.setIfInBounds_toArray, List.set_cons_zero, List.set_cons_succ])
      refine wpAnyT_take (i := 4) (oi := { dst := some 16, op := Op.binOp BinOp.add 3 (Operand.tmp 15) (Operand.const (Value.int IntKind.i64 1)) 3, type := 3, pos := "gauge.go:29", after := #[{ on := 3, ground := Ground.data }], guard := none }) (v := .int .i64 (m : Int)) [5, 6, 7, 8, 9] rfl (by kernel_rfl) (by kernel_rfl) (by kernel_rfl) (by kernel_rfl) (fun _ _ _ h => h) (Or.inl ⟨by rfl, ?_⟩) KP.out ?_
      · intro wq hSw
        skip
        go_simp
      (try simp only [Act.put, List.setIfInBounds_toArray, List.set_cons_zero, List.set_cons_succ])
      have RQ : Hid (Row q (.slice ao n ca) (fvals l)) := Below.row KP.out HX.out
      have SZ : Hid (w.heap.size ≤ q.heap.size) := KP.out.size
      refine wpAnyT_pair (i := 1) (j := 5) (oi := { dst := some 13, op := Op.call { callee := Callee.value (Operand.func 30), args := #[Operand.tmp 12], argTypes := #[24] }, type := 24, pos := "gauge.go:29", after := #[{ on := 0, ground := Ground.data }], guard := none }) (oj := { dst := some 17, op := Op.makeSlice 41 (Operand.tmp 16) (Operand.tmp 16), type := 41, pos := "gauge.go:29", after := #[{ on := 4, ground := Ground.data }, { on := 4, ground := Ground.data }], guard := none }) (fun vi vj w2 => Fw q.heap.size w2 vi l ∧ Iw q.heap.size w2 vj (List.replicate m 0) ∧ Below q.heap.size q w2) (by decide) (by kernel_rfl) rfl rfl (by kernel_rfl) (by kernel_rfl) (fun _ _ => rfl) ?_ ?_ ?_ ?_
      · intro K hK
        go_simp
        go_at_call 30
        refine (clone_f q _ l RQ.out hl.out).mono ?_
        rintro e w4 ⟨v', rfl, f4, b4⟩
        (try go_simp)
        refine hK.out v' _ (keepF KP.out b4) (fun K2 hK2 => ?_)
        clear hK K
        have O5 := HO.out w4
        have M5 := HM.out w4
        have B5 := box_below w4 (.cells C 2)
        go_simp
        exact hK2.out (.slice (some ⟨w4.heap.size, 0, none⟩) m m) _ ⟨owns_below f4 B5, owns_low O5 b4.size, keepF b4 B5⟩
      · intro K hK
        have O5 := HO.out q
        have M5 := HM.out q
        have B5 := box_below q (.cells C 2)
        go_simp
        refine hK.out (.slice (some ⟨q.heap.size, 0, none⟩) m m) _ (keepF KP.out B5) (fun K2 hK2 => ?_)
        clear hK K
        have R5 := Below.row B5 RQ.out
        go_simp
        go_at_call 30
        refine (clone_f _ _ l R5 hl.out).mono ?_
        rintro e w4 ⟨v', rfl, f4, b4⟩
        (try go_simp)
        exact hK2.out v' _ ⟨owns_low f4 B5.size, owns_below O5 b4, keepF B5 b4⟩
      · rintro vi vj w2 ⟨_, _, hb⟩
        exact keepF KP.out hb
      rintro vb vc w4 ⟨f4, i4, b4⟩
      have K4 : Hid (Below w.heap.size w w4) := keepF KP.out b4
      have F4 : Hid (Fw w.heap.size w4 vb l) := owns_low f4 SZ.out
      have I4 : Hid (Iw w.heap.size w4 vc (List.replicate m 0)) := owns_low i4 SZ.out
      clear f4 i4 b4 RQ SZ KP
      obtain ⟨a1, n1, c1, rfl⟩ := owns_form F4.out
      obtain ⟨a2, n2, c2, rfl⟩ := owns_form I4.out
      (try simp only [Act.put, List.setIfInBounds_toArray, List.set_cons_zero, List.set_cons_succ])
      refine wpAnyT_one (i := 6) (o := { dst := some 18, op := Op.build 64 #[(0, Operand.tmp 13), (1, Operand.tmp 17)], type := 64, pos := "gauge.go:29", after := #[{ on := 1, ground := Ground.data }, { on := 5, ground := Ground.data }], guard := none }) (by kernel_rfl) rfl (fun K hK => ?_)
      go_simp
      refine hK.out _ _ (fun _ => K4.out) ?_
      clear hK K
      (try simp only [Act.put, List.setIfInBounds_toArray, List.set_cons_zero, List.set_cons_succ])
      have B5 := hide (box_below w4 (.cells #[.slice a1 n1 c1, .slice a2 n2 c2, .int .i64 0, .int .i64 0, .float .f64 0, .float .f64 0, .float .f64 0] 64))
      have N5 := hide (heap_alloc_new w4 (.cells #[.slice a1 n1 c1, .slice a2 n2 c2, .int .i64 0, .int .i64 0, .float .f64 0, .float .f64 0, .float .f64 0] 64))
      have K5 : Hid (Below w.heap.size w (w4.alloc (.cells #[.slice a1 n1 c1, .slice a2 n2 c2, .int .i64 0, .int .i64 0, .float .f64 0, .float .f64 0, .float .f64 0] 64))) := keepF K4.out B5.out
      refine wpAnyT_one (i := 7) (o := { dst := some 19, op := Op.box 64 (Operand.tmp 18), type := 27, pos := "gauge.go:29", after := #[{ on := 6, ground := Ground.data }], guard := none }) (by kernel_rfl) rfl (fun K hK => ?_)
      go_simp
      refine hK.out _ _ (fun _ => K5.out) ?_
      clear hK K
      (try simp only [Act.put, List.setIfInBounds_toArray, List.set_cons_zero, List.set_cons_succ])
      refine wpAnyT_one (i := 8) (o := { dst := some 2, op := Op.assign (Operand.tmp 19), type := 27, pos := "gauge.go:29", after := #[{ on := 7, ground := Ground.data }, { on := 1, ground := Ground.chain }, { on := 0, ground := Ground.phase }, { on := 1, ground := Ground.phase }, { on := 2, ground := Ground.phase }, { on := 3, ground := Ground.phase }, { on := 4, ground := Ground.phase }, { on := 5, ground := Ground.phase }, { on := 6, ground := Ground.phase }, { on := 7, ground := Ground.phase }], guard := none }) (by kernel_rfl) rfl (fun K hK => ?_)
      go_simp
      refine hK.out _ _ (fun _ => K5.out) ?_
      clear hK K
      (try simp only [Act.put, List.setIfInBounds_toArray, List.set_cons_zero, List.set_cons_succ])
      refine wpAnyT_one (i := 9) (o := { dst := some 3, op := Op.assign (Operand.const (Value.int IntKind.i64 0)), type := 28, pos := "gauge.go:29", after := #[{ on := 8, ground := Ground.chain }, { on := 0, ground := Ground.phase }, { on := 1, ground := Ground.phase }, { on := 2, ground := Ground.phase }, { on := 3, ground := Ground.phase }, { on := 4, ground := Ground.phase }, { on := 5, ground := Ground.phase }, { on := 6, ground := Ground.phase }, { on := 7, ground := Ground.phase }, { on := 8, ground := Ground.phase }], guard := none }) (by kernel_rfl) rfl (fun K hK => ?_)
      go_simp
      refine hK.out _ _ (vac (by kernel_rfl)) ?_
      clear hK K
      (try simp only [Act.put, List.setIfInBounds_toArray, List.set_cons_zero, List.set_cons_succ])
      refine wpAnyT_done (by kernel_rfl) ?_ _
      go_wp2_with fail
      go_ret2
      have n5 := N5.out
      have f5 := owns_below F4.out B5.out
      have i5 := owns_below I4.out B5.out
      refine ⟨K5.out, .inr (.inr ⟨hnm, HR.out, _, _, _, rfl, ⟨n5, owns_low f5 (Nat.zero_le _), owns_low (by unfold g0; rw [hN.out, hm.out]; exact i5) (Nat.zero_le _)⟩, fun k hk => ?_⟩)⟩
      rcases hk with rfl | hk | hk
      · exact K4.out.size
      · exact (World.ownsRow.lt f5 k hk).1
      · exact (World.ownsRow.lt i5 k hk).1
    · have HR := hide hR
      clear hr hR
      go_wp2_with fail
      go_ret2
      exact ⟨Below.refl _ _, .inr (.inl ⟨hnm, HR.out, rfl⟩)⟩
end Go.Proofs.Ytjkdhckhokkefaa.Gg

