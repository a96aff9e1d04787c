/-
  A calm disk: a file written anew in another one's place, by data.
-/
import Derived.Test.YtnimildpcnmjeaaGreatDoorL02
import Derived.Test.YtnimildpcnmjeaaGreatDoorProg
import Derived.Test.YtnimildpcnmjeaaGreatDoorL01
import Derived.Deep.WholeRow
import Derived.Deep.MidRow
import Derived.Below
import Derived.Laws.ResultCell
import Derived.Defers
import Derived.Recover
import Derived.Deep.RegionHeld3
import Derived.BigQuiet
import Derived.Laws.Bits64b
import Derived.BigRegion
import Derived.Lib.SlBuf
import Derived.Lib.BufferRead
import Derived.Lib.SlBytesRow
import Derived.Deep.CutRange
import Derived.Deep.AppendLies
import Derived.Deep.RegionLaw
set_option maxRecDepth 100000
set_option maxHeartbeats 40000000
set_option linter.unusedVariables false
namespace Go.Proofs.YtnimildpcnmjeaaGreatDoor.St
open Go.RowKit Go.Maps Go.Sort Go.Shelf Go.Proofs.YtnimildpcnmjeaaGreatDoor.Nm Go.Proofs.YtnimildpcnmjeaaGreatDoor.Dk
def re1 (S : DS) (next : ByteArray) (p : Nat) : DS := (S.create next p).1
def re2 (S : DS) (next : ByteArray) (b : List UInt8) (p : Nat) : DS := ((re1 S next p).append next b).1
def re3 (S : DS) (next : ByteArray) (b : List UInt8) (p : Nat) : DS := ((re2 S next b p).sync next).1
def re4 (S : DS) (file next : ByteArray) (b : List UInt8) (p : Nat) : DS := ((re3 S next b p).rename next file).1
def re5 (S : DS) (file next : ByteArray) (b : List UInt8) (p : Nat) : DS := (re4 S file next b p).syncDir.1
def whl (b : List UInt8) : Fl := syF (apF ⟨[], [], 0⟩ b)
theorem whl_by (b : List UInt8) : (whl b).by_ = b := rfl
theorem upd_thrice (F : Nat → Fl) (p : Nat) (a b c : Fl) : upd (upd (upd F p a) p b) p c = upd F p c := by
 funext q
 unfold upd
 split <;> rfl
theorem ca_replace {S : DS} {M : Nat} {D : Dr} {F : Nat → Fl} {c : Int} (h : Ca S M D F c) {file next : ByteArray} (m1 : may file.data.toList = true) (m2 : may next.data.toList = true) (hne : next.data.toList ≠ file.data.toList) (hg : Dk.get D next.data.toList = none) (hl : D.length < 256) {p : Nat} (hp : p ∉ S.ps) (b : List UInt8) (hM : sumL F D + b.length ≤ M) :
    (S.create next p).2 = 0 ∧ ((re1 S next p).append next b).2.2 = 0 ∧ ((re2 S next b p).sync next).2 = 0 ∧ ((re3 S next b p).rename next file).2 = 0 ∧ (re4 S file next b p).syncDir.2 = 0 ∧
    (re1 S next p).c7 = c + 1 ∧ (re2 S next b p).c7 = c + 2 ∧ (re3 S next b p).c7 = c + 3 ∧ (re4 S file next b p).c7 = c + 4 ∧
    Ca (re5 S file next b p) M (rnD (dput D next.data.toList p) next.data.toList file.data.toList p) (upd F p (whl b)) (c + 5) ∧
    sumL (upd F p (whl b)) (rnD (dput D next.data.toList p) next.data.toList file.data.toList p) ≤ sumL F D + b.length ∧ (rnD (dput D next.data.toList p) next.data.toList file.data.toList p).length ≤ D.length + 1 ∧
    (∀ k, Dk.get (rnD (dput D next.data.toList p) next.data.toList file.data.toList p) k = if k = file.data.toList then some p else if k = next.data.toList then none else Dk.get D k) ∧ p ∉ D.map (·.2) := by
 obtain ⟨a1, a2, a3, a4, a5⟩ := h.create m2 hg hl hp
 have g1 : Dk.get (dput D next.data.toList p) next.data.toList = some p := by rw [get_dput, if_pos rfl]
 obtain ⟨b1, b2, b3⟩ := a2.append m2 g1 b (by rw [a3]; exact hM)
 obtain ⟨c1, c2, c3⟩ := b2.sync m2 g1
 have hne2 : next ≠ file := fun e => hne (by rw [e])
 obtain ⟨d1, d2, d3, d4⟩ := c2.rename m2 m1 g1 hne2 hne
 obtain ⟨e1, e2⟩ := d2.syncDir
 rw [upd_same, upd_same, upd_thrice] at e2 d3
 rw [upd_same, upd_same, upd_thrice] at c3
 rw [upd_same] at b3
 have k7 := c2.c7
 refine ⟨a1, b1, c1, d1, e1, a2.c7, ?_, ?_, ?_, ?_, ?_, ?_, ?_, a5⟩
 ·show ((re1 S next p).append next b).1.c7 = _; rw [show ((re1 S next p).append next b).1.c7 = c + 1 + 1 from b2.c7]; omega
 ·rw [show (re3 S next b p).c7 = c + 1 + 1 + 1 from c2.c7]; omega
 ·rw [show (re4 S file next b p).c7 = c + 1 + 1 + 1 + 1 from d2.c7]; omega
 ·rw [show c + 5 = c + 1 + 1 + 1 + 1 + 1 by omega]; exact e2
 ·refine Nat.le_trans d3 ?_
  show sumL (upd F p (syF (apF ⟨[], [], 0⟩ b))) _ ≤ _
  rw [c3, b3, a3]
  exact Nat.le_refl _
 ·omega
 ·intro k
  rw [get_rnD _ hne]
  by_cases h1 : k = file.data.toList
  ·rw [if_pos h1, if_pos h1]
  ·rw [if_neg h1, if_neg h1]
   by_cases h2 : k = next.data.toList
   ·rw [if_pos h2, if_pos h2]
   ·rw [if_neg h2, if_neg h2, get_dput, if_neg (fun e => h2 e.symm)]
end Go.Proofs.YtnimildpcnmjeaaGreatDoor.St
namespace Go.Proofs.YtnimildpcnmjeaaGreatDoor
open Go.RowKit
theorem appendVarint_any (w : World) (base : Nat) (v : Value) (l : List UInt8) (n : Nat) (hn : n < 18446744073709551616) (hbase : base ≤ w.heap.size)
    (hown : w.ownsRow base 5 1 v l.length (bvals l)) (hlen : l.length + 10 ≤ 140737488355328) :
    Calls Tryz.prog 212 #[v, .int .u64 (n : Int)] w fun e w' => ∃ v', e = .returned v' ∧ w'.ownsRow base 5 1 v' (l ++ enc n).length (bvals (l ++ enc n)) ∧ Below base w w' := by
 obtain ⟨i0, hi, hz0, hz1, hz2⟩ := info_parts Tryz.infoU8
 go_enter Tryz.func212, Tryz.ntmps212
 go_wp2
 go_loopw [0, 1] (fun v x wr => ∃ (m : Nat) (d : List UInt8), m < 18446744073709551616 ∧ x = .int .u64 m ∧ Hid (enc n = d ++ enc m) ∧ wr.ownsRow base 5 1 v (l ++ d).length (bvals (l ++ d)) ∧ Below base w wr) (fun _ x _ => (intOf x).toNat)
 case atStart => exact ⟨n, [], hn, rfl, by simp [Hid], by simpa using hown, Below.refl _ _⟩
 case round =>
  clear hown
  obtain ⟨m, d, hm, rfl, henc, hown, hbel⟩ := hrel
  have hel := enc_len n
  by_cases hlt : m < 128
  ·have hd : d.length ≤ 9 := by
     have h1 := enc_pos m
     rw [henc.out, List.length_append] at hel; omega
   clear hel
   go_wp2_with (at_builtin; refine wpList_append_own _ rfl (.tmp 16) (.tmp 19) 54 rfl base 5 i0 (.int .u8 0) 1 1 Tryz.underlying54 hi hz0 hz1 hz2 rfl (by decide) _ _ _ rfl (hown.alloc _) ⟨wr.heap.size, 0, none⟩ 1 1 [.int .u8 m] rfl rfl (cell_one_new _ _ _) (by simp [Value.oneCell']) (by simp [maxLen]; omega) (by simp; omega) (by have := hbel.size; simp; omega) ?_)
   intro v' w1 hown' hgrow _
   rw [u8_of m (by omega), bvals_one] at hown'
   have hsz := hbel.size
   have hb1 : Below base w w1 := (hbel.alloc (by omega) _).grown hgrow (by simp; omega) (fun k hk => (hown.lt k hk).1)
   go_wp2
   go_ret
   refine ⟨_, rfl, ?_, hb1⟩
   rw [henc.out, enc_small hlt, ← List.append_assoc]
   simpa [Nat.add_assoc] using hown'
  ·have hd : d.length ≤ 8 := by
     have h1 := enc_pos (m / 128)
     rw [henc.out, enc_big (by omega) (by omega), List.length_append, List.length_cons] at hel; omega
   clear hel
   go_wp2_with (at_builtin; refine wpList_append_own _ rfl (.tmp 7) (.tmp 12) 54 rfl base 5 i0 (.int .u8 0) 1 1 Tryz.underlying54 hi hz0 hz1 hz2 rfl (by decide) _ _ _ rfl (hown.alloc _) ⟨wr.heap.size, 0, none⟩ 1 1 [_] rfl rfl (cell_one_new _ _ _) (by simp [Value.oneCell']) (by simp [maxLen]; omega) (by simp; omega) (by have := hbel.size; simp; omega) ?_)
   intro v' w1 hown' hgrow _
   rw [bval_big, bvals_one] at hown'
   have hsz := hbel.size
   have hb1 : Below base w w1 := (hbel.alloc (by omega) _).grown hgrow (by simp; omega) (fun k hk => (hown.lt k hk).1)
   go_wp2
   go_roundw
   case rel =>
    refine ⟨m / 128, d ++ [UInt8.ofNat (m % 128 + 128)], by omega, by go_num, ?_, ?_, hb1⟩
    ·show _ = _
     rw [henc.out, enc_big (by omega) hm]; simp
    ·rw [← List.append_assoc]; simpa [Nat.add_assoc] using hown'
   case measure => simp [intOf]; omega
theorem varint_any (w : World) (n : Int) (h0 : 0 ≤ n) (hn : n < 18446744073709551616) :
    Calls Tryz.prog 180 #[.int .u64 n] w fun e w' => ∃ v', e = .returned v' ∧ w'.ownsRow w.heap.size 5 1 v' (enc n.toNat).length (bvals (enc n.toNat)) ∧ Below w.heap.size w w' := by
 obtain ⟨n, rfl⟩ := Int.eq_ofNat_of_zero_le h0
 rw [Int.toNat_natCast]
 have hn' : Hid (n < 18446744073709551616) := by show _ < _; omega
 clear h0 hn
 go_enter Tryz.func180, Tryz.ntmps180
 go_wp2_with fail
 refine (appendVarint_any w w.heap.size (.slice none 0 0) [] n hn'.out (Nat.le_refl _) (World.ownsRow_nil _ _ _ _) (by decide)).mono ?_
 rintro e w' ⟨v', rfl, ho, hb⟩
 go_wp2
 go_ret
 exact ⟨_, rfl, by simpa using ho, hb⟩
theorem clone_any (w : World) (x : Value) (l : List UInt8) (hx : Sl w x l) (hlen : l.length ≤ 140737488355328) :
    Calls Tryz.prog 151 #[x] w fun e w' => ∃ v', e = .returned v' ∧ w'.ownsRow w.heap.size 5 1 v' l.length (bvals l) ∧ Below w.heap.size w w' := by
 have hx0 := hx
 obtain ⟨ao, ca, rfl, h2, h3, h4, h5⟩ := hx
 have he := fun (u : World) (ao : Option Addr) (n c n' c' : Nat) => Lib.run_eql_slice_nil (P := Tryz.prog) u 54 5 ao n c n' c' Tryz.underlying54
 cases ao with
 | none =>
  obtain ⟨rfl, rfl⟩ := h2 rfl
  go_enter Tryz.func151, Tryz.ntmps151
  go_wp2
  go_ret
  exact ⟨_, rfl, World.ownsRow_nil _ _ _ _, Below.refl _ _⟩
 | some ad =>
  clear h2
  go_enter Tryz.func151, Tryz.ntmps151
  go_wp2_with (at_builtin; refine wpList_append_bytes rfl (.tmp 5) (.tmp 6) 54 rfl w.heap.size 5 Tryz.infoU8 Tryz.underlying54 _ _ [] l rfl (World.ownsRow_made _ #[] 0 (Nat.le_refl _) (by decide) rfl) rfl (Below.sl ((Below.refl _ _).alloc (Nat.le_refl _) _) hx0) (by simpa using hlen) (by simp) ?_)
  intro v' w1 ho hb
  have hb1 : Below w.heap.size w w1 := ((Below.refl _ _).alloc (Nat.le_refl _) _).trans hb
  go_wp2
  go_ret
  exact ⟨_, rfl, by simpa using ho, hb1⟩
theorem or_add (a m k : Nat) (h : a < 2 ^ k) : a ||| m * 2 ^ k = a + m * 2 ^ k := by
 rw [← Nat.shiftLeft_eq, Nat.or_comm, ← Nat.shiftLeft_add_eq_or_of_lt h, Nat.add_comm]
theorem wrap_u64_in (x : Int) (h0 : 0 ≤ x) (h1 : x < 18446744073709551616) : IntKind.u64.wrap x = x := by
 simp only [IntKind.wrap, IntKind.bits, IntKind.signed]
 simp only [Bool.false_and, Bool.false_eq_true, if_false]
 exact Int.emod_eq_of_lt h0 (by simpa using h1)
theorem or_shift (acc c s : Nat) (ha : acc < 2 ^ s) (hb : acc + c * 2 ^ s < 18446744073709551616) (x : Int) (hx : x = ((c * 2 ^ s : Nat) : Int)) :
    bits BinOp.or IntKind.u64 (acc : Int) (IntKind.u64.wrap x) = ((acc + c * 2 ^ s : Nat) : Int) := by
 subst hx
 rw [wrap_u64_in _ (by omega) (by omega), u64_or_nat _ _ (by omega) (by omega), or_add _ _ _ ha]
end Go.Proofs.YtnimildpcnmjeaaGreatDoor
namespace Go.Proofs.YtnimildpcnmjeaaGreatDoor
end Go.Proofs.YtnimildpcnmjeaaGreatDoor
namespace Go.Proofs.YtnimildpcnmjeaaGreatDoor
open Go.RowKit
def num : List UInt8 → Nat
 | [] => 0
 | c :: r => c.toNat + 256 * num r
theorem num_lt (l : List UInt8) : num l < 256 ^ l.length := by
 induction l with
 | nil => simp [num]
 | cons c r ih => have := c.toNat_lt; simp only [num, List.length_cons, Nat.pow_succ]; omega
theorem num_snoc (l : List UInt8) (c : UInt8) : num (l ++ [c]) = num l + c.toNat * 256 ^ l.length := by
 induction l with
 | nil => simp [num]
 | cons d r ih =>
  simp only [List.cons_append, num, ih, List.length_cons, Nat.pow_succ, Nat.mul_add]
  rw [Nat.add_assoc, Nat.mul_comm (256 ^ r.length) 256, ← Nat.mul_assoc, ← Nat.mul_assoc, Nat.mul_comm 256 c.toNat]
theorem num_le (l : List UInt8) (n : Nat) (h : l.length ≤ n) : num l < 256 ^ n := Nat.lt_of_lt_of_le (num_lt l) (Nat.pow_le_pow_right (by omega) h)
theorem or_byte (acc c k : Nat) (ha : acc < 256 ^ k) (hb : acc + c * 256 ^ k < 18446744073709551616) :
    bits BinOp.or IntKind.u64 (acc : Int) (IntKind.u64.wrap ((c : Int) * 2 ^ (8 * k))) = ((acc + c * 256 ^ k : Nat) : Int) := by
 have e : (2 : Nat) ^ (8 * k) = 256 ^ k := by rw [Nat.pow_mul]
 rw [← e] at ha hb ⊢
 exact or_shift acc c (8 * k) ha hb _ (by simp)
theorem readFixed_any (w : World) (x : Value) (l : List UInt8) (hx : Sl w x l) (h8 : l.length ≤ 8) :
    Calls Tryz.prog 154 #[x] w fun e w' => e = .returned (.int .u64 (num l : Int)) ∧ w' = w := by
 obtain ⟨ao, ca, rfl, h2, h3, h4, h5⟩ := hx
 clear h2 h3 h4
 go_enter Tryz.func154, Tryz.ntmps154
 go_wp2
 go_loop [3, 8] (fun n i => ∃ (k acc : Nat), k ≤ l.length ∧ i = .int .i64 k ∧ n = .int .u64 acc ∧ Hid (acc = num (l.take k))) (fun _ i => l.length - (intOf i).toNat)
 case atStart => exact ⟨0, 0, Nat.zero_le _, rfl, rfl, rfl⟩
 case round =>
  obtain ⟨k, acc, hk, rfl, rfl, hacc⟩ := hrel
  by_cases hlt : k < l.length
  ·obtain ⟨b1, o1, rfl, h1⟩ := h5.at (by omega)
   have c1 := h1 k hlt
   have hc := l[k].toNat_lt
   have hl : (l.take k).length = k := by simp; omega
   have HN : Hid (acc + l[k].toNat * 256 ^ k = num (l.take (k + 1))) := by
    show _ = _
    rw [take_snoc l k hlt, num_snoc, hacc.out, hl]
   have HO : Hid (bits BinOp.or IntKind.u64 (acc : Int) (IntKind.u64.wrap (((l[k].toNat : Nat) : Int) * 2 ^ (8 * k))) = ((acc + l[k].toNat * 256 ^ k : Nat) : Int)) := by
    have g1 := num_le (l.take k) k (by omega)
    have g2 := num_le (l.take (k + 1)) 8 (by simp; omega)
    rw [← HN.out] at g2
    rw [← hacc.out] at g1
    exact or_byte acc _ k g1 (by simpa using g2)
   clear h1 h5 hl
   generalize l[k] = c at *
   go_wp2
   go_round
   case rel => exact ⟨k + 1, acc + c.toNat * 256 ^ k, by omega, by go_num, by rw [HO.out], HN⟩
   case measure => simp [intOf]; omega
  ·have HN : Hid (num l = acc) := by
     show _ = _
     rw [hacc.out, List.take_of_length_le (by omega)]
   go_wp2
   go_ret
   exact ⟨by rw [HN.out]; rfl, rfl⟩
def fx : Nat → Nat → List UInt8
 | 0, _ => []
 | s + 1, n => UInt8.ofNat (n % 256) :: fx s (n / 256)
theorem fx_len (s n : Nat) : (fx s n).length = s := by
 induction s generalizing n with
 | zero => rfl
 | succ s ih => simp [fx, ih]
theorem fx_snoc (s n : Nat) : fx (s + 1) n = fx s n ++ [UInt8.ofNat (n / 256 ^ s % 256)] := by
 induction s generalizing n with
 | zero => simp [fx]
 | succ s ih =>
  rw [fx, ih, fx, List.cons_append, Nat.div_div_eq_div_mul, Nat.pow_succ, Nat.mul_comm 256]
theorem fx_num (s n : Nat) (h : n < 256 ^ s) : num (fx s n) = n := by
 induction s generalizing n with
 | zero => simp at h; subst h; rfl
 | succ s ih =>
  rw [Nat.pow_succ] at h
  rw [fx, num, ih (n / 256) (Nat.div_lt_of_lt_mul (by omega)), UInt8.toNat_ofNat_of_lt' (show n % 256 < 256 by omega)]
  omega
theorem set_fx (s k n : Nat) (h : k < s) : (bvals (fx k n) ++ List.replicate (s - k) (Value.int .u8 0)).set k (bval (UInt8.ofNat (n / 256 ^ k % 256))) = bvals (fx (k + 1) n) ++ List.replicate (s - (k + 1)) (Value.int .u8 0) := by
 have hl : (bvals (fx k n)).length = k := by rw [bvals_length, fx_len]
 rw [List.set_append_right _ _ (by omega), hl, Nat.sub_self, fx_snoc, bvals_append, List.append_assoc]
 congr 1
 obtain ⟨d, hd⟩ : ∃ d, s - k = d + 1 := ⟨s - k - 1, by omega⟩
 have : s - (k + 1) = d := by omega
 rw [hd, this]
 simp [List.replicate_succ, bvals]
theorem shr_byte (n k : Nat) (x : Int) (hx : x = (n : Int) / 2 ^ (8 * k)) : Value.int .u8 (x % 256) = bval (UInt8.ofNat (n / 256 ^ k % 256)) := by
 have e : (2 : Nat) ^ (8 * k) = 256 ^ k := by rw [Nat.pow_mul]
 rw [← u8_of _ (by omega), ← e, hx]
 simp
theorem fixed_any (w : World) (n s : Nat) (hn : n < 18446744073709551616) (hs : s ≤ 8) :
    Calls Tryz.prog 181 #[.int .u64 (n : Int), .int .i64 (s : Int)] w fun e w' => ∃ v', e = .returned v' ∧ w'.ownsRow w.heap.size 5 1 v' (fx s n).length (bvals (fx s n)) ∧ Below w.heap.size w w' := by
 obtain ⟨i0, hi, hz0, hz1, hz2⟩ := info_parts Tryz.infoU8
 have HN : Hid (n < 18446744073709551616) := hn
 clear hn
 go_enter Tryz.func181, Tryz.ntmps181
 go_wp2_with (at_make; refine wpList_make_full w rfl _ _ 54 rfl w.heap.size 5 i0 (.int .u8 0) 1 Tryz.underlying54 hi hz0 hz1 .i64 .i64 _ _ s rfl rfl rfl rfl (by rw [hz2]; omega) (by unfold maxLen; omega) (Nat.le_refl _) ?_)
 intro w1 ho1 hg1
 have hb1 : Below w.heap.size w w1 := (Below.refl _ _).grown hg1 (Nat.le_refl _) (fun k hk => by simp at hk)
 clear hg1
 go_wp2
 go_loopw [11] (fun i wr => ∃ k : Nat, k ≤ s ∧ i = .int .i64 k ∧ wr.ownsRow w.heap.size 5 1 (.slice (some ⟨w.heap.size, 0, none⟩) s s) s (bvals (fx k n) ++ List.replicate (s - k) (.int .u8 0)) ∧ Below w.heap.size w wr) (fun i _ => s - (intOf i).toNat)
 case atStart =>
  refine ⟨0, Nat.zero_le _, rfl, ?_, hb1⟩
  simpa [bvals, fx, toList_madeCells_one, Value.cells] using ho1
 case round =>
  clear ho1 hb1
  obtain ⟨k, hk, rfl, ho, hb⟩ := hrel
  by_cases hlt : k < s
  ·have hc1 : (wr.cell? ⟨w.heap.size, k, none⟩).isSome = true := by
     rw [ho.cellAt k (by omega)]; simp [bvals, fx_len]; omega
   obtain ⟨v0, hc⟩ := Option.isSome_iff_exists.1 hc1
   have hf := ho.frozenAt k
   clear hc1
   go_wp2
   go_roundw
   case rel =>
    refine ⟨k + 1, by omega, by go_num, ?_, hb.setCell (Nat.le_refl _) _⟩
    have hst := (ho.stored k (bval (UInt8.ofNat (n / 256 ^ k % 256)))).1
    rw [set_fx s k n hlt] at hst
    rw [shr_byte n k _ rfl]
    exact hst
   case measure => simp [intOf]; omega
  ·obtain rfl : k = s := by omega
   go_wp2
   go_ret
   refine ⟨_, rfl, ?_, hb⟩
   rw [fx_len]
   simpa using ho
theorem fixed64_any (w : World) (n : Int) (h0 : 0 ≤ n) (hn : n < 18446744073709551616) :
    Calls Tryz.prog 187 #[.int .u64 n] w fun e w' => ∃ v', e = .returned v' ∧ w'.ownsRow w.heap.size 5 1 v' (fx 8 n.toNat).length (bvals (fx 8 n.toNat)) ∧ Below w.heap.size w w' := by
 obtain ⟨n, rfl⟩ := Int.eq_ofNat_of_zero_le h0
 rw [Int.toNat_natCast]
 have HN : Hid (n < 18446744073709551616) := by show _ < _; omega
 clear h0 hn
 go_enter Tryz.func187, Tryz.ntmps187
 go_wp2_with fail
 refine (fixed_any w n 8 HN.out (by omega)).mono ?_
 rintro e w' ⟨v', rfl, ho, hb⟩
 go_wp2
 go_ret
 exact ⟨_, rfl, ho, hb⟩
theorem fixed32_any (w : World) (n : Int) (h0 : 0 ≤ n) (hn : n < 4294967296) :
    Calls Tryz.prog 126 #[.int .u32 n] w fun e w' => ∃ v', e = .returned v' ∧ w'.ownsRow w.heap.size 5 1 v' (fx 4 n.toNat).length (bvals (fx 4 n.toNat)) ∧ Below w.heap.size w w' := by
 obtain ⟨n, rfl⟩ := Int.eq_ofNat_of_zero_le h0
 rw [Int.toNat_natCast]
 go_enter Tryz.func126, Tryz.ntmps126
 go_wp2_with fail
 refine (fixed_any w n 4 (by omega) (by omega)).mono ?_
 rintro e w' ⟨v', rfl, ho, hb⟩
 go_wp2
 go_ret
 exact ⟨_, rfl, ho, hb⟩
end Go.Proofs.YtnimildpcnmjeaaGreatDoor
namespace Go.Proofs.YtnimildpcnmjeaaGreatDoor.Crc
abbrev R := BitVec 32
def poly : R := 0x82f63b78#32
def s1 (c : R) : R := if c.getLsbD 0 then (c >>> 1) ^^^ poly else c >>> 1
def st : Nat → R → R
 | 0, c => c
 | n + 1, c => st n (s1 c)
theorem s1_xor (a b : R) : s1 (a ^^^ b) = s1 a ^^^ s1 b := by
 unfold s1
 rw [BitVec.getLsbD_xor, BitVec.ushiftRight_xor_distrib]
 cases a.getLsbD 0 <;> cases b.getLsbD 0 <;> simp
 ·rw [BitVec.xor_assoc]
 ·rw [BitVec.xor_assoc, BitVec.xor_assoc, BitVec.xor_comm poly]
 ·rw [BitVec.xor_assoc, ← BitVec.xor_assoc poly, BitVec.xor_comm poly, BitVec.xor_assoc, BitVec.xor_self, BitVec.xor_zero]
theorem s1_zero : s1 0#32 = 0#32 := by decide
theorem st_xor (n : Nat) : ∀ a b : R, st n (a ^^^ b) = st n a ^^^ st n b := by
 induction n with
 | zero => intro a b; rfl
 | succ n ih => intro a b; show st n (s1 (a ^^^ b)) = _; rw [s1_xor, ih]; rfl
theorem st_zero (n : Nat) : st n 0#32 = 0#32 := by
 induction n with
 | zero => rfl
 | succ n ih => show st n (s1 0#32) = _; rw [s1_zero, ih]
theorem st_add (m n : Nat) : ∀ c, st (m + n) c = st m (st n c) := by
 induction n with
 | zero => intro c; rfl
 | succ n ih => intro c; show st (m + n) (s1 c) = _; rw [ih]; rfl
theorem st_succ' (n : Nat) (c : R) : st (n + 1) c = s1 (st n c) := by rw [Nat.add_comm, st_add]; rfl
def byte (x : UInt8) : R := BitVec.ofNat 32 x.toNat
def feed : R → List UInt8 → R
 | c, [] => c
 | c, x :: l => feed (st 8 (c ^^^ byte x)) l
theorem feed_append (c : R) (l m : List UInt8) : feed c (l ++ m) = feed (feed c l) m := by
 induction l generalizing c with
 | nil => rfl
 | cons x l ih => exact ih _
def ones : R := 0xffffffff#32
def more (sum : R) (l : List UInt8) : R := feed (sum ^^^ ones) l ^^^ ones
theorem more_nil (sum : R) : more sum [] = sum := by
 show (sum ^^^ ones) ^^^ ones = sum
 rw [BitVec.xor_assoc, BitVec.xor_self, BitVec.xor_zero]
theorem st_shift (n : Nat) : ∀ c : R, (∀ i, i < n → c.getLsbD i = false) → st n c = c >>> n := by
 induction n with
 | zero => intro c _; simp [st]
 | succ n ih =>
  intro c h
  have h0 := h 0 (by omega)
  have e : s1 c = c >>> 1 := by unfold s1; rw [h0]; rfl
  show st n (s1 c) = _
  rw [e, ih _ (fun i hi => by rw [BitVec.getLsbD_ushiftRight, Nat.add_comm]; exact h (i + 1) (by omega)), ← BitVec.shiftRight_add, Nat.add_comm]
theorem st8_split (c : R) (x : UInt8) : st 8 (c ^^^ byte x) = (c >>> 8) ^^^ st 8 (BitVec.ofNat 32 ((c.toNat % 256) ^^^ x.toNat)) := by
 have e : c ^^^ byte x = (c >>> 8 <<< 8) ^^^ BitVec.ofNat 32 ((c.toNat % 256) ^^^ x.toNat) := by
  have hlow : BitVec.ofNat 32 ((c.toNat % 256) ^^^ x.toNat) = BitVec.ofNat 32 (c.toNat % 256) ^^^ byte x := by
   apply BitVec.eq_of_toNat_eq
   have h1 : c.toNat % 256 < 2 ^ 32 := by omega
   have h2 : x.toNat < 2 ^ 32 := by have := x.toNat_lt; omega
   rw [BitVec.toNat_xor, BitVec.toNat_ofNat, BitVec.toNat_ofNat, byte, BitVec.toNat_ofNat, Nat.mod_eq_of_lt h1, Nat.mod_eq_of_lt h2, Nat.mod_eq_of_lt (Nat.xor_lt_two_pow h1 h2)]
  rw [hlow, ← BitVec.xor_assoc]
  congr 1
  apply BitVec.eq_of_getLsbD_eq
  intro i hi
  rw [BitVec.getLsbD_xor, BitVec.getLsbD_shiftLeft, BitVec.getLsbD_ushiftRight, BitVec.getLsbD_ofNat, show 256 = 2 ^ 8 from rfl, Nat.testBit_mod_two_pow]
  by_cases h8 : i < 8
  ·simp [h8, hi, BitVec.getLsbD]
  ·simp [h8, hi, show 8 + (i - 8) = i by omega]
 rw [e, st_xor]
 congr 1
 rw [st_shift 8]
 ·apply BitVec.eq_of_getLsbD_eq
  intro i hi
  rw [BitVec.getLsbD_ushiftRight, BitVec.getLsbD_shiftLeft, BitVec.getLsbD_ushiftRight]
  by_cases h : 8 + i < 32
  ·simp [h, show ¬ 8 + i < 8 by omega, show 8 + i - 8 = i by omega]
  ·have hz : c.getLsbD (8 + i) = false := BitVec.getLsbD_of_ge c (8 + i) (by omega)
   simp [h, hz]
 ·intro i hi
  rw [BitVec.getLsbD_shiftLeft]; simp [hi]
end Go.Proofs.YtnimildpcnmjeaaGreatDoor.Crc
namespace Go.Proofs.YtnimildpcnmjeaaGreatDoor.Ct
structure Sg where
 nm : Int
 ba : Int
 se : Nat
 en : Int
 sz : Int
def zS : Sg := ⟨0, 0, 0, 0, 0⟩
def sg (l : List Sg) (i : Nat) : Sg := l.getD i zS
theorem sg_get {l : List Sg} {i : Nat} (h : i < l.length) : sg l i = l[i] := by
 unfold sg
 rw [List.getD_eq_getElem?_getD, List.getElem?_eq_getElem h]
 rfl
structure SIn (s : Sg) : Prop where
 a1 : -9223372036854775808 ≤ s.nm
 a2 : s.nm ≤ 9223372036854775807
 b1 : -9223372036854775808 ≤ s.ba
 b2 : s.ba ≤ 9223372036854775807
 c : s.se < 4294967296
 d1 : -9223372036854775808 ≤ s.en
 d2 : s.en ≤ 9223372036854775807
 e1 : -9223372036854775808 ≤ s.sz
 e2 : s.sz ≤ 9223372036854775807
theorem zIn : SIn zS := ⟨by decide, by decide, by decide, by decide, by decide, by decide, by decide, by decide, by decide⟩
def AIn (l : List Sg) : Prop := ∀ s ∈ l, SIn s
theorem AIn.sg {l : List Sg} (h : AIn l) (i : Nat) : SIn (sg l i) := by
 by_cases hi : i < l.length
 ·rw [sg_get hi]; exact h _ (List.getElem_mem hi)
 ·unfold Ct.sg
  rw [List.getD_eq_getElem?_getD, List.getElem?_eq_none (by omega)]
  exact zIn
def slF (s : Sg) : Prop := 1 ≤ s.nm ∧ 1 ≤ s.ba ∧ s.ba ≤ s.en ∧ 32 ≤ s.sz ∧ s.sz ≤ 2147483647
def foF (s t : Sg) : Prop := s.nm < 9223372036854775807 ∧ t.nm = s.nm + 1 ∧ t.ba = s.en
def sldF (s : Sg) : Prop := s.en ≠ 0 ∨ s.sz ≠ 0
def opF (s : Sg) : Prop := 1 ≤ s.nm ∧ 1 ≤ s.ba ∧ ¬ sldF s
def beF (f : Int) (s : Sg) : Prop := s.ba ≤ f ∧ (sldF s → f ≤ s.en)
structure May (g f : Int) (l : List Sg) : Prop where
 g1 : 1 ≤ g
 n1 : 1 ≤ l.length
 n2 : l.length ≤ 64
 lk : ∀ i, i + 1 < l.length → slF (sg l i) ∧ foF (sg l i) (sg l (i + 1))
 op : opF (sg l (l.length - 1))
 be : beF f (sg l 0)
noncomputable def mayB (g f : Int) (l : List Sg) : Bool := @decide (May g f l) (Classical.propDecidable _)
theorem mayB_t {g f : Int} {l : List Sg} (h : May g f l) : mayB g f l = true := by unfold mayB; simp [h]
theorem mayB_f {g f : Int} {l : List Sg} (h : ¬ May g f l) : mayB g f l = false := by unfold mayB; simp [h]
theorem mayB_iff {g f : Int} {l : List Sg} : mayB g f l = true ↔ May g f l := by unfold mayB; simp
theorem May.nmba {g f : Int} {l : List Sg} (h : May g f l) {i : Nat} (hi : i < l.length) : 1 ≤ (sg l i).nm ∧ 1 ≤ (sg l i).ba := by
 by_cases e : i + 1 < l.length
 ·obtain ⟨⟨a, b, _⟩, _⟩ := h.lk i e; exact ⟨a, b⟩
 ·obtain rfl : i = l.length - 1 := by omega
  obtain ⟨a, b, _⟩ := h.op; exact ⟨a, b⟩
theorem May.f0 {g f : Int} {l : List Sg} (h : May g f l) : 1 ≤ f := by
 have a := h.be.1
 have b := (h.nmba (i := 0) (by have := h.n1; omega)).2
 omega
theorem May.sld {g f : Int} {l : List Sg} (h : May g f l) {i : Nat} (hi : i < l.length) : sldF (sg l i) ↔ i + 1 < l.length := by
 constructor
 ·intro a
  refine Classical.byContradiction fun c => ?_
  obtain rfl : i = l.length - 1 := by omega
  exact h.op.2.2 a
 ·intro a
  obtain ⟨⟨_, b, c, _⟩, _⟩ := h.lk i a
  exact .inl (by omega)
def IsAt (l : List Sg) (n : Int) (i : Nat) : Prop := i < l.length ∧ (sg l i).ba ≤ n ∧ ∀ j, i < j → j < l.length → n < (sg l j).ba
theorem isAt_one {l : List Sg} {n : Int} {i j : Nat} (h : IsAt l n i) (g : IsAt l n j) : i = j := by
 obtain ⟨a1, a2, a3⟩ := h
 obtain ⟨b1, b2, b3⟩ := g
 refine Classical.byContradiction fun c => ?_
 rcases Nat.lt_or_gt_of_ne c with c | c
 ·have := a3 j c b1; omega
 ·have := b3 i c a1; omega
open Classical in
noncomputable def atF (g f : Int) (l : List Sg) (n : Int) : Nat × Bool :=
 if h : May g f l ∧ f ≤ n ∧ ∃ i, IsAt l n i then (Classical.choose h.2.2, true) else (0, false)
theorem atF_no {g f : Int} {l : List Sg} {n : Int} (h : ¬ May g f l ∨ n < f) : atF g f l n = (0, false) := by
 unfold atF
 rw [dif_neg]
 rintro ⟨a, b, _⟩
 rcases h with h | h
 ·exact h a
 ·omega
theorem atF_at {g f : Int} {l : List Sg} {n : Int} {i : Nat} (h : May g f l) (hn : f ≤ n) (hi : IsAt l n i) : atF g f l n = (i, true) := by
 unfold atF
 rw [dif_pos ⟨h, hn, i, hi⟩]
 simp only [Prod.mk.injEq, and_true]
 exact isAt_one (Classical.choose_spec (⟨i, hi⟩ : ∃ i, IsAt l n i)) hi
def lastS (l : List Sg) : Sg := sg l (l.length - 1)
def rolled (l : List Sg) (en sz : Int) (se : Nat) : List Sg := l.take (l.length - 1) ++ [⟨(lastS l).nm, (lastS l).ba, (lastS l).se, en, sz⟩, ⟨(lastS l).nm + 1, en, se, 0, 0⟩]
open Classical in
noncomputable def rollF (g f : Int) (l : List Sg) (en sz : Int) (se : Nat) : Int × Int × Int × List Sg :=
 if ¬ May g f l then (4, 0, 0, [])
 else if l.length = 64 then (9, 0, 0, [])
 else if g = 9223372036854775807 ∨ (lastS l).nm = 9223372036854775807 then (1, 0, 0, [])
 else if ¬ May (g + 1) f (rolled l en sz se) then (1, 0, 0, [])
 else (0, g + 1, f, rolled l en sz se)
theorem rolled_in {l : List Sg} (h : AIn l) (hm : (lastS l).nm < 9223372036854775807) {en sz : Int} {se : Nat} (h1 : -9223372036854775808 ≤ en) (h2 : en ≤ 9223372036854775807) (h3 : -9223372036854775808 ≤ sz) (h4 : sz ≤ 9223372036854775807) (h5 : se < 4294967296) : AIn (rolled l en sz se) := by
 intro s hs
 unfold rolled at hs
 have hl := h.sg (l.length - 1)
 rcases List.mem_append.1 hs with hs | hs
 ·exact h s (List.mem_of_mem_take hs)
 ·simp only [List.mem_cons, List.not_mem_nil, or_false] at hs
  rcases hs with rfl | rfl
  ·exact ⟨hl.a1, hl.a2, hl.b1, hl.b2, hl.c, h1, h2, h3, h4⟩
  ·exact ⟨by have := hl.a1; show _ ≤ (lastS l).nm + 1; unfold lastS at *; omega, by show (lastS l).nm + 1 ≤ _; omega, h1, h2, h5, by show _ ≤ (0 : Int); omega, by show (0 : Int) ≤ _; omega, by show _ ≤ (0 : Int); omega, by show (0 : Int) ≤ _; omega⟩
def segB (s : Sg) : List UInt8 := enc s.nm.toNat ++ (enc s.ba.toNat ++ (fx 4 s.se ++ (enc s.en.toNat ++ enc s.sz.toNat)))
def bodyC (l : List Sg) : List UInt8 := l.flatMap segB
def markC : List UInt8 := [70, 67, 65, 84]
def midC (g f : Int) (l : List Sg) : List UInt8 := enc g.toNat ++ (enc f.toNat ++ (enc l.length ++ bodyC l))
def frontC (g f : Int) (l : List Sg) : List UInt8 := markC ++ midC g f l
def bytesC (g f : Int) (l : List Sg) : List UInt8 := frontC g f l ++ fx 4 (Crc.more 0#32 (frontC g f l)).toNat
theorem bodyC_snoc (l : List Sg) (s : Sg) : bodyC (l ++ [s]) = bodyC l ++ segB s := by simp [bodyC]
theorem segB_len (s : Sg) : (segB s).length ≤ 44 := by
 have a := enc_len s.nm.toNat
 have b := enc_len s.ba.toNat
 have c := enc_len s.en.toNat
 have d := enc_len s.sz.toNat
 have e := fx_len 4 s.se
 simp [segB]; omega
theorem bodyC_len (l : List Sg) : (bodyC l).length ≤ 44 * l.length := by
 induction l with
 | nil => simp [bodyC]
 | cons s r ih =>
  have a := segB_len s
  have : bodyC (s :: r) = segB s ++ bodyC r := by simp [bodyC]
  rw [this]; simp; omega
theorem frontC_len (g f : Int) (l : List Sg) : (frontC g f l).length ≤ 34 + 44 * l.length := by
 have a := enc_len g.toNat
 have b := enc_len f.toNat
 have c := enc_len l.length
 have d := bodyC_len l
 simp [frontC, midC, markC]; omega
end Go.Proofs.YtnimildpcnmjeaaGreatDoor.Ct
namespace Go.Proofs.YtnimildpcnmjeaaGreatDoor.Crc
open Go.RowKit
theorem lt32 (c : R) : c.toNat < 4294967296 := c.isLt
theorem b_xor (a b : R) : bits .xor .u32 (a.toNat : Int) (b.toNat : Int) = ((a ^^^ b).toNat : Int) := by
 rw [u32_xor_nat _ _ (lt32 a) (lt32 b), BitVec.toNat_xor]
theorem b_and1 (c : R) : bits .and .u32 (c.toNat : Int) 1 = if c.getLsbD 0 then 1 else 0 := by
 rw [show (1 : Int) = ((1 : Nat) : Int) from rfl, u32_and_nat _ _ (lt32 c) (by decide), Nat.and_one_is_mod]
 have h : c.getLsbD 0 = decide (c.toNat % 2 = 1) := by rw [BitVec.getLsbD, Nat.testBit_zero]
 rw [h]
 by_cases h1 : c.toNat % 2 = 1
 ·rw [h1]; rfl
 ·rw [if_neg (by simpa using h1)]; omega
theorem half (c : R) : (c.toNat : Int) / (2 : Int) = ((c >>> 1).toNat : Int) := by
 rw [BitVec.toNat_ushiftRight, Nat.shiftRight_eq_div_pow]; omega
theorem xor_poly (c : R) : bits .xor .u32 ((c.toNat : Int) / 2) 2197175160 = (((c >>> 1) ^^^ poly).toNat : Int) := by
 rw [half, ← b_xor]; rfl
theorem step_any (w : World) (c : R) :
    Calls Tryz.prog 225 #[.int .u32 (c.toNat : Int)] w fun e w' => e = .returned (.int .u32 ((s1 c).toNat : Int)) ∧ w' = w := by
 have hlt := lt32 c
 have h1 := b_and1 c
 cases hb : c.getLsbD 0 with
 | true =>
  rw [hb, if_pos rfl] at h1
  go_enter Tryz.func225, Tryz.ntmps225
  go_wp2
  go_ret
  refine ⟨?_, rfl⟩
  rw [xor_poly, s1, hb]; rfl
 | false =>
  rw [hb] at h1
  simp only [Bool.false_eq_true, if_false] at h1
  go_enter Tryz.func225, Tryz.ntmps225
  go_wp2
  go_ret
  refine ⟨?_, rfl⟩
  rw [half, s1, hb]; rfl
theorem xor_ones (c : R) : bits .xor .u32 (c.toNat : Int) 4294967295 = ((c ^^^ ones).toNat : Int) := b_xor c ones
def rot (c : R) (k : Nat) : R := (c <<< k) ||| (c >>> (32 - k))
theorem b_or (a b : R) : bits .or .u32 (a.toNat : Int) (b.toNat : Int) = ((a ||| b).toNat : Int) := by
 rw [u32_or_nat _ _ (lt32 a) (lt32 b), BitVec.toNat_or]
theorem shl17 (c : R) : (c.toNat : Int) * (131072 : Int) % (4294967296 : Int) = ((c <<< 17).toNat : Int) := by
 rw [BitVec.toNat_shiftLeft, Nat.shiftLeft_eq]; omega
theorem shl15 (c : R) : (c.toNat : Int) * (32768 : Int) % (4294967296 : Int) = ((c <<< 15).toNat : Int) := by
 rw [BitVec.toNat_shiftLeft, Nat.shiftLeft_eq]; omega
theorem shr15 (c : R) : (c.toNat : Int) / (32768 : Int) = ((c >>> 15).toNat : Int) := by
 rw [BitVec.toNat_ushiftRight, Nat.shiftRight_eq_div_pow]; omega
theorem shr17 (c : R) : (c.toNat : Int) / (131072 : Int) = ((c >>> 17).toNat : Int) := by
 rw [BitVec.toNat_ushiftRight, Nat.shiftRight_eq_div_pow]; omega
theorem or17 (c : R) : bits BinOp.or IntKind.u32 ((c.toNat : Int) * 131072 % 4294967296) ((c.toNat : Int) / (32768 : Int)) = ((rot c 17).toNat : Int) := by
 rw [shl17, shr15, b_or]; rfl
theorem or15 (c : R) : bits BinOp.or IntKind.u32 ((c.toNat : Int) * 32768 % 4294967296) ((c.toNat : Int) / (131072 : Int)) = ((rot c 15).toNat : Int) := by
 rw [shl15, shr17, b_or]; rfl
def hidden : R := 0xa282ead8#32
def maskOf (c : R) : R := rot c 17 + hidden
theorem add_hidden (c : R) : ((c.toNat : Int) + (2726488792 : Int)) % (4294967296 : Int) = ((c + hidden).toNat : Int) := by
 rw [BitVec.toNat_add]; show _ = (((c.toNat + 2726488792) % 4294967296 : Nat) : Int); omega
theorem rotL_any (w : World) (c : R) (k : Int) (m : Nat) (hk : (k = -15 ∧ m = 17) ∨ (k = 15 ∧ m = 15)) :
    Calls Tryz.prog 188 #[.int .u32 (c.toNat : Int), .int .i64 k] w fun e w' => e = .returned (.int .u32 ((rot c m).toNat : Int)) ∧ w' = w := by
 have hlt := lt32 c
 have h17 : bits BinOp.and IntKind.u64 (IntKind.u64.wrap (-15)) 31 = 17 := by decide +kernel
 have h15 : bits BinOp.and IntKind.u64 (IntKind.u64.wrap 15) 31 = 15 := by decide +kernel
 have h15' : bits BinOp.and IntKind.u64 15 31 = 15 := by decide +kernel
 rcases hk with ⟨rfl, rfl⟩ | ⟨rfl, rfl⟩
 ·go_enter Tryz.func188, Tryz.ntmps188
  go_wp2
  go_ret
  exact ⟨by rw [← or17]; rfl, rfl⟩
 ·go_enter Tryz.func188, Tryz.ntmps188
  go_wp2
  go_ret
  exact ⟨by rw [← or15]; rfl, rfl⟩
theorem mask_any (w : World) (c : R) :
    Calls Tryz.prog 144 #[.int .u32 (c.toNat : Int)] w fun e w' => e = .returned (.int .u32 ((maskOf c).toNat : Int)) ∧ w' = w := by
 go_enter Tryz.func144, Tryz.ntmps144
 go_wp2_with fail
 refine (rotL_any _ _ (-15) 17 (.inl ⟨rfl, rfl⟩)).mono ?_
 rintro e w1 ⟨rfl, rfl⟩
 go_wp2
 go_ret
 exact ⟨by rw [maskOf, ← add_hidden]; rfl, rfl⟩
def row (f : Nat → R) (n : Nat) : Array Value := Array.ofFn (n := n) fun i => .int .u32 ((f i.val).toNat : Int)
def upd (f : Nat → R) (i : Nat) (v : R) : Nat → R := fun j => if j = i then v else f j
theorem row_size (f : Nat → R) (n : Nat) : (row f n).size = n := by simp [row]
theorem row_get (f : Nat → R) (n i : Nat) (h : i < n) : (row f n)[i]? = some (.int .u32 ((f i).toNat : Int)) := by
 simp [row, h]
theorem row_set (f : Nat → R) (n i : Nat) (v : R) : (row f n).setIfInBounds i (.int .u32 (v.toNat : Int)) = row (upd f i v) n := by
 apply Array.ext_getElem?
 intro j
 rw [Array.getElem?_setIfInBounds]
 by_cases hj : j < n
 ·rw [row_get _ _ _ hj, row_get _ _ _ hj]
  by_cases h : i = j
  ·subst h; simp [upd, hj, row_size]
  ·simp [upd, h, show ¬ j = i from fun e => h e.symm]
 ·have e1 : (row f n)[j]? = none := Array.getElem?_eq_none (by rw [row_size]; omega)
  have e2 : (row (upd f i v) n)[j]? = none := Array.getElem?_eq_none (by rw [row_size]; omega)
  rw [e1, e2]
  by_cases h : i = j
  ·subst h; simp [row_size, hj]
  ·simp [h]
theorem row_one (f : Nat → R) (n : Nat) : (row f n).all (·.oneCell') = true := by
 rw [Array.all_eq_true]
 intro i h
 simp only [row, Array.getElem_ofFn]
 rfl
theorem row_zero (n : Nat) : row (fun _ => 0#32) n = Array.replicate n (.int .u32 0) := by
 apply Array.ext
 ·simp [row]
 ·intro j h1 h2
  simp [row]
theorem row_congr {f g : Nat → R} {n : Nat} (h : ∀ i, i < n → f i = g i) : row f n = row g n := by
 apply Array.ext
 ·simp [row]
 ·intro j h1 h2
  have h1' : j < n := by simpa [row] using h1
  simp only [row, Array.getElem_ofFn, h j h1']
theorem heap_new (w : World) (o : Obj) : (w.alloc o).heap[w.heap.size]? = some o := heap_alloc_last w o
theorem heap_old (w : World) (o p : Obj) : ((w.alloc o).alloc p).heap[w.heap.size]? = some o := by
 rw [Below.heap_alloc _ _ _ (by simp), heap_new]
theorem range_of {w : World} {b : Nat} {C : Array Value} {t : TypeId} {fr : Nat × Nat} (h : w.heap[b]? = some (.cells C t fr)) : w.rangeAt b 0 C.toList := fun j v hv => by
 rw [cell_of_row w b (0 + j) C t fr h, Nat.zero_add]; simpa using hv
theorem there_of {w : World} {b n : Nat} {C : Array Value} {t : TypeId} (h : w.heap[b]? = some (.cells C t)) (hn : C.size = n) : w.there b 0 n := fun j hj => by
 refine ⟨?_, by simp [World.frozen?, h]⟩
 rw [cell_of_row w b (0 + j) C t (0, 0) h, Nat.zero_add, Array.getElem?_eq_getElem (by omega)]; rfl
theorem below_setCells {B b : Nat} (hb : B ≤ b) : ∀ (vs : List Value) (o : Nat) {a w : World}, Below B a w → Below B a (w.setCells b o vs)
 | [], _, _, _, h => h
 | v :: r, o, a, w, h => by
  rw [World.setCells.eq_def]
  exact below_setCells hb r (o + 1) (h.setCell hb v)
theorem results_cell1 {P : Program} {fn : Func} {p : Tmp} {ty : TypeId} (h : fn.results = #[.cell p ty]) (tmps : Array Value) (w : World) (a : Addr) (v : Value)
    (ha : tmps.getD p undef = .pointer (some a)) (hl : (loadVar ty a).run P w = .ok v w) : (results fn tmps).run P w = .ok v w := by
 have ha' : tmps[p]?.getD undef = .pointer (some a) := by simpa [Array.getD_eq_getD_getElem?] using ha
 simp only [results, h]
 simp [ha', asAddr, hl]
def Tab (f : Nat → R) (B a : Nat) : Prop := ∀ x, x < 256 → x % B = 0 → (x < a ∨ x % (2 * B) = 0) → f x = st 8 (BitVec.ofNat 32 x)
theorem tab_low : ∀ k : Fin 8, ∀ a : Fin 256, a.val % (2 * 2 ^ (7 - k.val)) = 0 → st 8 (BitVec.ofNat 32 (a.val + 2 ^ (7 - k.val))) = st 8 (BitVec.ofNat 32 a.val) ^^^ st (k.val + 1) 1#32 := by decide +kernel
theorem tab_init : Tab (fun _ => 0#32) (2 ^ 8) 256 := by
 intro x hx h _
 have : x = 0 := by omega
 subst this
 exact (st_zero 8).symm
theorem tab_next {f : Nat → R} {k : Nat} (hk : k < 8) (h : Tab f (2 ^ (8 - k)) 256) : Tab f (2 ^ (7 - k)) 0 := by
 intro x hx h1 h2
 have e : 2 ^ (8 - k) = 2 * 2 ^ (7 - k) := by rw [show 8 - k = (7 - k) + 1 by omega, Nat.pow_succ, Nat.mul_comm]
 rcases h2 with h2 | h2
 ·omega
 ·exact h x hx (by rw [e]; exact h2) (.inl hx)
theorem tab_step {f : Nat → R} {k a : Nat} (hk : k < 8) (ha : a < 256) (hm : a % (2 * 2 ^ (7 - k)) = 0) (h : Tab f (2 ^ (7 - k)) a) :
    Tab (upd f (a + 2 ^ (7 - k)) (f a ^^^ st (k + 1) 1#32)) (2 ^ (7 - k)) (a + 2 * 2 ^ (7 - k)) := by
 have hB : 0 < 2 ^ (7 - k) := Nat.pow_pos (by omega)
 have h0 : a % 2 ^ (7 - k) = 0 := by
  have := Nat.mod_mul_left_mod a 2 (2 ^ (7 - k))
  rw [hm] at this
  simpa using this.symm
 intro x hx h1 h2
 unfold upd
 by_cases e : x = a + 2 ^ (7 - k)
 ·rw [if_pos e, e, h a ha h0 (.inr hm)]
  exact (tab_low ⟨k, hk⟩ ⟨a, ha⟩ hm).symm
 ·rw [if_neg e]
  refine h x hx h1 ?_
  rcases h2 with h2 | h2
  ·by_cases hxa : x < a
   ·exact .inl hxa
   ·right
    obtain ⟨p, hp⟩ := Nat.dvd_of_mod_eq_zero h1
    obtain ⟨q, hq⟩ := Nat.dvd_of_mod_eq_zero hm
    have hB0 : 2 ^ (7 - k) ≠ 0 := by omega
    generalize 2 ^ (7 - k) = B at *
    have : p = 2 * q := by
     have a1 : B * p < B * (2 * q + 2) := by rw [Nat.mul_add, ← Nat.mul_assoc, Nat.mul_comm B 2, Nat.mul_assoc]; rw [hq, hp, Nat.mul_assoc] at h2; omega
     have a2 : B * (2 * q) ≤ B * p := by rw [← Nat.mul_assoc, Nat.mul_comm B 2, Nat.mul_assoc]; rw [hq, hp, Nat.mul_assoc] at hxa; omega
     have b1 := Nat.lt_of_mul_lt_mul_left a1
     have b2 := Nat.le_of_mul_le_mul_left a2 hB
     have b3 : p ≠ 2 * q + 1 := by
      rintro rfl
      apply e
      rw [hp, hq, Nat.mul_add, Nat.mul_one, ← Nat.mul_assoc, Nat.mul_comm B 2]
     omega
    rw [hp, this, ← Nat.mul_assoc, Nat.mul_comm B 2]
    exact Nat.mul_mod_right _ _
  ·exact .inr h2
theorem tab_last {f : Nat → R} (h : Tab f (2 ^ (8 - 8)) 256) : row f 256 = row (fun x => st 8 (BitVec.ofNat 32 x)) 256 :=
 row_congr fun i hi => h i hi (by simp [Nat.mod_one]) (.inl hi)
theorem tab_done {f : Nat → R} {k a : Nat} (hk : k < 8) (ha : 256 ≤ a) (h : Tab f (2 ^ (7 - k)) a) : Tab f (2 ^ (8 - (k + 1))) 256 := by
 intro x hx h1 h2
 rw [show 8 - (k + 1) = 7 - k by omega] at h1
 exact h x hx h1 (.inl (by omega))
theorem tab_room {k a : Nat} (hk : k < 8) (ha : a < 256) (hm : a % (2 * 2 ^ (7 - k)) = 0) : a + 2 * 2 ^ (7 - k) ≤ 256 := by
 obtain ⟨q, hq⟩ := Nat.dvd_of_mod_eq_zero hm
 have e : 2 * 2 ^ (7 - k) * 2 ^ k = 256 := by
  rw [show 2 * 2 ^ (7 - k) = 2 ^ (8 - k) by rw [show 8 - k = (7 - k) + 1 by omega, Nat.pow_succ, Nat.mul_comm], ← Nat.pow_add, show 8 - k + k = 8 by omega]
 have h1 : 2 * 2 ^ (7 - k) * q < 2 * 2 ^ (7 - k) * 2 ^ k := by rw [e, ← hq]; exact ha
 have h2 : 2 * 2 ^ (7 - k) * (q + 1) ≤ 2 * 2 ^ (7 - k) * 2 ^ k := Nat.mul_le_mul_left _ (Nat.lt_of_mul_lt_mul_left h1)
 rw [e, Nat.mul_add, ← hq] at h2
 omega
def tbl : Array Value := row (fun x => st 8 (BitVec.ofNat 32 x)) 256
theorem zero256 : (∀ w, (zeroValue 271).run Tryz.prog w = .ok (.agg (Array.replicate 256 (.int .u32 0))) w) ∧ (Tryz.prog.info? 271).map (·.size) = some 256 :=
 zero_of_info (by kernel_rfl)
theorem table_any (w : World) :
    Calls Tryz.prog 194 #[] w fun e w' => e = .returned (.agg tbl) ∧ Below w.heap.size w w' := by
 have hz := zero256.1
 go_enter Tryz.func194, Tryz.ntmps194
 go_wp2_with fail
 rw [← row_zero 256]
 have hx2 : ∀ a b : R, bits .xor .u32 (a.toNat : Int) (b.toNat : Int) = ((a ^^^ b).toNat : Int) := b_xor
 have HX : Hid (∀ a b : R, bits .xor .u32 (a.toNat : Int) (b.toNat : Int) = ((a ^^^ b).toNat : Int)) := hx2
 clear hx2
 go_loopw [2, 3] (fun vc vb wr => ∃ (k bt : Nat) (f : Nat → R), k ≤ 8 ∧ vc = .int .u32 ((st k 1#32).toNat : Int) ∧ vb = .int .i64 (bt : Int) ∧ Hid (bt = 128 / 2 ^ k) ∧ Hid (Tab f (2 ^ (8 - k)) 256) ∧ wr = (w.alloc (.cells (row (fun _ => 0#32) 256) 271)).alloc (.cells (row f 256) 271)) (fun _ b _ => (intOf b).toNat)
 case atStart => exact ⟨0, 128, _, by omega, rfl, rfl, rfl, tab_init, rfl⟩
 case round =>
  obtain ⟨k, bt, f, hk, rfl, rfl, hbt, htab, rfl⟩ := hrel
  by_cases h8 : k < 8
  ·have eB : bt = 2 ^ (7 - k) := by rw [hbt.out, show 128 = 2 ^ 7 from rfl, Nat.pow_div (by omega) (by omega)]
   have hpos : 0 < bt := by rw [eB]; exact Nat.pow_pos (by omega)
   have hle : bt ≤ 128 := by rw [hbt.out]; exact Nat.div_le_self _ _
   have HB : Hid (bt = 2 ^ (7 - k)) := eB
   have hnext : Hid (bt / 2 = 128 / 2 ^ (k + 1)) := by show _ = _; rw [hbt.out, Nat.pow_succ, Nat.div_div_eq_div_mul]
   have ht0 : Hid (Tab f (2 ^ (7 - k)) 0) := tab_next h8 htab.out
   clear eB hbt htab
   go_wp2_with fail
   refine (step_any _ _).mono ?_
   rintro e w1 ⟨rfl, rfl⟩
   rw [← st_succ']
   go_wp2_with fail
   go_loopw [4] (fun va wr => ∃ (a : Nat) (g : Nat → R), va = .int .i64 (a : Int) ∧ a ≤ 256 ∧ Hid (a % (2 * 2 ^ (7 - k)) = 0) ∧ Hid (Tab g (2 ^ (7 - k)) a) ∧ wr = (w.alloc (.cells (row (fun _ => 0#32) 256) 271)).alloc (.cells (row g 256) 271)) (fun a _ => 256 - (intOf a).toNat)
   case atStart => exact ⟨0, f, rfl, by omega, by show _ = _; simp, ht0.out, rfl⟩
   case round =>
    obtain ⟨a, g, rfl, ha, hm, htab, rfl⟩ := hrel
    by_cases hlt : a < 256
    ·have hroom := tab_room h8 hlt hm.out
     rw [← HB.out] at hroom
     have hc1 := row_get g 256 a hlt
     have hc2 := row_get g 256 (a + bt) (by omega)
     obtain ⟨v, hv⟩ : ∃ v, v = g a ^^^ st (k + 1) 1#32 := ⟨_, rfl⟩
     have hx := HX.out (g a) (st (k + 1) 1#32)
     rw [← hv] at hx
     have HS : Hid (Tab (upd g (a + bt) v) (2 ^ (7 - k)) (a + 2 * bt)) := by
      have := tab_step h8 hlt hm.out htab.out
      rw [← HB.out] at this ⊢
      rw [hv]; exact this
     have HM2 : Hid ((a + 2 * bt) % (2 * 2 ^ (7 - k)) = 0) := by
      show _ = _
      rw [← HB.out, Nat.add_mod_right]
      have := hm.out
      rw [← HB.out] at this
      exact this
     have HR : Hid ((row g 256).setIfInBounds (a + bt) (.int .u32 (v.toNat : Int)) = row (upd g (a + bt) v) 256) := row_set _ _ _ _
     obtain ⟨Z, hZ⟩ : ∃ Z, Z = row (fun _ => 0#32) 256 := ⟨_, rfl⟩
     obtain ⟨C, hC⟩ : ∃ C, C = row g 256 := ⟨_, rfl⟩
     rw [← hC] at hc1 hc2 HR ⊢
     rw [← hZ]
     have HZ : Hid (Z = row (fun _ => 0#32) 256) := hZ
     clear hv hm htab ht0 hnext hZ hC
     go_wp2_with fail
     go_roundw
     case rel => exact ⟨a + 2 * bt, upd g (a + bt) v, by go_num, by omega, HM2.out, HS.out, by rw [HR.out, HZ.out]⟩
     case measure => simp [intOf]; omega
    ·obtain rfl : a = 256 := by omega
     have HD : Hid (Tab g (2 ^ (8 - (k + 1))) 256) := tab_done h8 (Nat.le_refl _) htab.out
     clear hm htab ht0
     go_wp2_with fail
     go_roundw
     case rel => exact ⟨k + 1, bt / 2, g, by omega, rfl, by go_num, hnext, HD.out, rfl⟩
     case measure => simp [intOf]; omega
  ·obtain rfl : k = 8 := by omega
   obtain rfl : bt = 0 := by rw [hbt.out]
   have HT : Hid (row f 256 = tbl) := tab_last htab.out
   rw [HT.out]
   clear htab HT
   have hs : tbl.size = 256 := row_size _ _
   have h1 : tbl.all (·.oneCell') = true := row_one _ _
   have hr : Hid (((w.alloc (.cells (row (fun _ => 0#32) 256) 271)).alloc (.cells tbl 271)).rangeAt (w.heap.size + 1) 0 tbl.toList) := range_of (by simpa using heap_new (w.alloc (.cells (row (fun _ => 0#32) 256) 271)) _)
   have ht : Hid (((w.alloc (.cells (row (fun _ => 0#32) 256) 271)).alloc (.cells tbl 271)).there w.heap.size 0 256) := there_of (heap_old w _ _) (row_size _ _)
   have hbl : Hid (Below w.heap.size w ((w.alloc (.cells (row (fun _ => 0#32) 256) 271)).alloc (.cells tbl 271))) := (box_below w _).alloc (by simp) _
   have hi : (Tryz.prog.info? 271).map (·.size) = some tbl.size := by rw [hs]; exact zero256.2
   have HI : Hid ((Tryz.prog.info? 271).map (·.size) = some tbl.size) := hi
   have HI2 : Hid ((Tryz.prog.info? 271).map (·.size) = some tbl.toList.length) := by show _ = _; rw [Array.length_toList]; exact hi
   have HS : Hid (tbl.size = 256) := hs
   have H1 : Hid (tbl.all (·.oneCell') = true) := h1
   clear hs h1 hi
   generalize hwv : (w.alloc (.cells (row (fun _ => 0#32) 256) 271)).alloc (.cells tbl 271) = wv at *
   have HL : Hid ((loadVar 271 ⟨w.heap.size, 0, none⟩).run Tryz.prog (wv.setCells w.heap.size 0 tbl.toList) = .ok (.agg tbl) (wv.setCells w.heap.size 0 tbl.toList)) := by
    have := run_loadVar_mid (P := Tryz.prog) (wv.setCells w.heap.size 0 tbl.toList) w.heap.size 0 271 tbl.toList _ (World.rangeAt_setCells_same wv w.heap.size 0 tbl.toList (by rw [Array.length_toList, HS.out]; exact ht.out)) Tryz.underlying271 rfl HI2.out
    rw [Array.toArray_toList] at this
    exact this
   have HB : Hid (Below w.heap.size w (wv.setCells w.heap.size 0 tbl.toList)) := below_setCells (Nat.le_refl _) _ _ hbl.out
   clear hwv hbl
   go_wp2_with (first
    | (refine wpList_load_mid rfl 271 (.tmp 1) rfl (w.heap.size + 1) 0 rfl tbl.toList _ hr.out Tryz.underlying271 rfl HI2.out ?_; rw [Array.toArray_toList])
    | (refine wpList_store_mid rfl 271 (.tmp 0) (.tmp 26) rfl w.heap.size 0 tbl rfl rfl (by rw [HS.out]; exact ht.out) HI.out H1.out ?_))
   (try simp only [Exit.inBlock, Exit.then])
   refine bodyPost_ret (v := .agg tbl) (results_cell1 rfl _ _ ⟨w.heap.size, 0, none⟩ _ rfl HL.out) rfl ⟨rfl, HB.out⟩
theorem feed_snoc (c : R) (l : List UInt8) (k : Nat) (h : k < l.length) : feed c (l.take (k + 1)) = st 8 (feed c (l.take k) ^^^ byte l[k]) := by
 rw [take_snoc l k h, feed_append]; rfl
theorem byte_idx (c : R) (x : UInt8) : bits BinOp.xor IntKind.u8 ((c.toNat : Int) % 256) (x.toNat : Int) = ((c.toNat % 256 ^^^ x.toNat : Nat) : Int) := by
 have := u8_xor_nat (c.toNat % 256) x.toNat (by omega) x.toNat_lt
 simpa using this
theorem byte_idx_lt (c : R) (x : UInt8) : c.toNat % 256 ^^^ x.toNat < 256 := by
 have := Nat.xor_lt_two_pow (n := 8) (show c.toNat % 256 < 2 ^ 8 by omega) (show x.toNat < 2 ^ 8 from x.toNat_lt)
 simpa using this
theorem shr8 (c : R) : (c.toNat : Int) / (256 : Int) = ((c >>> 8).toNat : Int) := by
 rw [BitVec.toNat_ushiftRight, Nat.shiftRight_eq_div_pow]; omega
theorem more_step (c : R) (x : UInt8) : bits BinOp.xor IntKind.u32 ((c.toNat : Int) / (256 : Int)) ((st 8 (BitVec.ofNat 32 (c.toNat % 256 ^^^ x.toNat))).toNat : Int) = ((st 8 (c ^^^ byte x)).toNat : Int) := by
 rw [shr8, b_xor, ← st8_split]
theorem table_some (w : World) :
    Calls Tryz.prog 194 #[] w fun e w' => ∃ T : Array Value, e = .returned (.agg T) ∧ Below w.heap.size w w' ∧ Hid (T.size = 256) ∧ Hid (T.all (·.oneCell') = true) ∧ Hid (∀ i, i < 256 → T[i]? = some (.int .u32 ((st 8 (BitVec.ofNat 32 i)).toNat : Int))) :=
 (table_any w).mono fun _ _ ⟨h, hb⟩ => ⟨tbl, h, hb, row_size _ _, row_one _ _, fun i hi => row_get _ 256 i hi⟩
theorem more_any (w : World) (sum : R) (v : Value) (l : List UInt8) (hv : Sl w v l) :
    Calls Tryz.prog 156 #[.int .u32 (sum.toNat : Int), v] w fun e w' => e = .returned (.int .u32 ((more sum l).toNat : Int)) ∧ Below w.heap.size w w' := by
 obtain ⟨ao, ca, rfl, h2, h3, h4, h5⟩ := hv
 have hca : ca ≤ 9223372036854775807 := by unfold maxLen at h4; omega
 clear h2 h4
 by_cases h0 : l.length = 0
 ·have hl : l = [] := List.length_eq_zero_iff.1 h0
  subst hl
  clear h5 h0
  go_enter Tryz.func156, Tryz.ntmps156
  go_wp2_with fail
  go_ret
  exact ⟨by rw [more_nil]; rfl, Below.refl _ _⟩
 ·have hz := zero256.1
  have h0' : ¬ ((l.length : Int) = 0) := by omega
  have HZ : Hid (∀ n, ((l.length : Int) == 0) = n → n = false) := by show ∀ n, _; intro n hn; rw [← hn]; simpa using h0
  go_enter Tryz.func156, Tryz.ntmps156
  go_wp2_with fail
  refine (table_some _).mono ?_
  rintro e w1 ⟨T, rfl, hb1, hs, h1, hT⟩
  have hi : Hid ((Tryz.prog.info? 271).map (·.size) = some T.size) := by show _ = _; rw [hs.out]; exact zero256.2
  have ht : Hid ((w1.alloc (.cells (Array.replicate 256 (.int .u32 0)) 271)).there w1.heap.size 0 256) := there_of (heap_new w1 _) (by simp)
  have hbl : Hid (Below w.heap.size w ((w1.alloc (.cells (Array.replicate 256 (.int .u32 0)) 271)).setCells w1.heap.size 0 T.toList)) := below_setCells hb1.size _ _ (hb1.alloc hb1.size _)
  have hcl : Hid (∀ i, i < 256 → ((w1.alloc (.cells (Array.replicate 256 (.int .u32 0)) 271)).setCells w1.heap.size 0 T.toList).cell? ⟨w1.heap.size, i, none⟩ = some (.int .u32 ((st 8 (BitVec.ofNat 32 i)).toNat : Int))) := by
   intro i hi
   have := World.rangeAt_setCells_same (w1.alloc (.cells (Array.replicate 256 (.int .u32 0)) 271)) w1.heap.size 0 T.toList (by rw [Array.length_toList, hs.out]; exact ht.out) i (.int .u32 ((st 8 (BitVec.ofNat 32 i)).toNat : Int)) (by rw [Array.getElem?_toList]; exact hT.out i hi)
   rwa [Nat.zero_add] at this
  go_wp2_with (refine wpList_store_mid rfl 271 (.tmp 5) (.tmp 13) rfl w1.heap.size 0 T rfl rfl (by rw [hs.out]; exact ht.out) hi.out h1.out ?_)
  rw [xor_ones]
  have hg := h5
  generalize hwv : (w1.alloc (.cells (Array.replicate 256 (.int .u32 0)) 271)).setCells w1.heap.size 0 T.toList = wv at *
  have h5v : Rd wv ao l := Below.rd hbl.out h5
  have hxl := fun c : R => xor_ones c
  have HXL : Hid (∀ c : R, bits .xor .u32 (c.toNat : Int) 4294967295 = ((c ^^^ ones).toNat : Int)) := hxl
  clear hwv hg h5 ht hi h1 hT hs hz hxl hb1 h0' HZ
  obtain ⟨c0, hc0⟩ : ∃ c0, c0 = sum ^^^ ones := ⟨_, rfl⟩
  have HM : Hid (more sum l = feed c0 l ^^^ ones) := by show _ = _; rw [hc0]; rfl
  rw [← hc0]
  clear hc0
  go_loopw [6, 8, 18] (fun vc _ vi wr => ∃ k : Nat, k ≤ l.length ∧ vc = .int .u32 ((feed c0 (l.take k)).toNat : Int) ∧ vi = .int .i64 (k : Int) ∧ wr = wv) (fun _ _ i _ => l.length - (intOf i).toNat)
  case atStart => exact ⟨0, Nat.zero_le _, rfl, rfl, rfl⟩
  case round =>
   obtain ⟨k, hk, rfl, rfl, rfl⟩ := hrel
   by_cases hlt : k < l.length
   ·obtain ⟨b1, o1, rfl, hb⟩ := h5v.at (by omega)
    have d2 := hb k hlt
    have HF : Hid (st 8 (feed c0 (l.take k) ^^^ byte l[k]) = feed c0 (l.take (k + 1))) := (feed_snoc c0 l k hlt).symm
    obtain ⟨c, hc⟩ : ∃ c, c = feed c0 (l.take k) := ⟨_, rfl⟩
    obtain ⟨x, hx⟩ : ∃ x, x = l[k] := ⟨_, rfl⟩
    rw [← hx] at d2 HF
    rw [← hc] at HF ⊢
    have hix := byte_idx c x
    have hms := more_step c x
    rw [HF.out] at hms
    obtain ⟨y, hy⟩ : ∃ y, y = c.toNat % 256 ^^^ x.toNat := ⟨_, rfl⟩
    have hyl : y < 256 := by rw [hy]; exact byte_idx_lt c x
    rw [← hy] at hix hms
    have hcy := hcl.out y hyl
    have hcl32 := lt32 c
    have hxl8 := x.toNat_lt
    clear hy hx hc HF hb
    go_wp2_with fail
    go_roundw
    case rel => exact ⟨k + 1, by omega, rfl, by go_num, by trivial⟩
    case measure => simp [intOf]; omega
   ·obtain rfl : k = l.length := by omega
    have hxo := HXL.out (feed c0 l)
    rw [List.take_length, ← HM.out] at *
    go_wp2_with fail
    go_ret
    exact ⟨rfl, hbl.out⟩
theorem sum_any (w : World) (v : Value) (l : List UInt8) (hv : Sl w v l) :
    Calls Tryz.prog 108 #[v] w fun e w' => e = .returned (.int .u32 ((more 0#32 l).toNat : Int)) ∧ Below w.heap.size w w' := by
 have hv0 := hv
 obtain ⟨ao, ca, rfl, h2, h3, h4, h5⟩ := hv
 clear h2 h3 h4 h5
 go_enter Tryz.func108, Tryz.ntmps108
 go_wp2_with fail
 refine (more_any _ 0#32 _ l hv0).mono ?_
 rintro e w1 ⟨rfl, hb⟩
 go_wp2
 go_ret
 exact ⟨rfl, hb⟩
end Go.Proofs.YtnimildpcnmjeaaGreatDoor.Crc
namespace Go.Proofs.YtnimildpcnmjeaaGreatDoor
open Go.RowKit
theorem row_lit (w : World) (vs : List Value) (t : TypeId) (hm : vs.length ≤ maxLen) : Row (w.alloc (.cells vs.toArray t)) (.slice (some ⟨w.heap.size, 0, none⟩) vs.length vs.length) vs := by
 refine ⟨_, _, rfl, fun e => by simp at e, Nat.le_refl _, hm, fun i hi => ⟨_, _, rfl, ?_⟩⟩
 have : (w.alloc (.cells vs.toArray t)).heap[w.heap.size]? = some (.cells vs.toArray t (0, 0)) := heap_alloc_new _ _
 simp only [World.cell?, this, Nat.zero_add]
 simp [hi]
theorem Sls.nil (w : World) : Sls w [] [] := ⟨rfl, fun i h => by simp at h⟩
theorem Sls.cons {w : World} {v : Value} {l : List UInt8} {vs : List Value} {ls : List (List UInt8)} (h : Sl w v l) (hs : Sls w vs ls) : Sls w (v :: vs) (l :: ls) :=
 ⟨by simp [hs.1], fun i h1 h2 => by
  cases i with
  | zero => exact h
  | succ i => exact hs.2 i (by simpa using h1) (by simpa using h2)⟩
theorem keepF {w u v : World} (h : Below w.heap.size w u) (q : Below u.heap.size u v) : Below w.heap.size w v := h.trans (q.mono h.size)
theorem owns_lower {w : World} {b b' e n : Nat} {v : Value} {xs : List Value} (h : w.ownsRow b e 1 v n xs) (hb : b' ≤ b) : w.ownsRow b' e 1 v n xs := by
 obtain ⟨h1, h2⟩ := h
 refine ⟨h1, ?_⟩
 rcases h2 with h2 | ⟨g, cap, cur, a, b, c⟩
 ·exact Or.inl h2
 ·exact Or.inr ⟨g, cap, cur, a, Nat.le_trans hb b, c⟩
def ffs (lsn n : Nat) : List UInt8 := fx 4 n ++ fx 8 lsn
def fsum (seed : Crc.R) (lsn : Nat) (d : List UInt8) : Crc.R := Crc.more 0#32 (fx 4 seed.toNat ++ (ffs lsn d.length ++ d))
def fmark (s : Crc.R) : List UInt8 := fx 4 (Crc.maskOf s).toNat
def frm (seed : Crc.R) (lsn : Nat) (d : List UInt8) : List UInt8 := ffs lsn d.length ++ (fmark (fsum seed lsn d) ++ d)
theorem ffs_len (lsn n : Nat) : (ffs lsn n).length = 12 := by simp [ffs, fx_len]
theorem fmark_len (s : Crc.R) : (fmark s).length = 4 := by simp [fmark, fx_len]
theorem frm_len (seed : Crc.R) (lsn : Nat) (d : List UInt8) : (frm seed lsn d).length = 16 + d.length := by
 simp [frm, ffs_len, fmark_len]; omega
def inB (n m : Int) : Bool := decide (1 ≤ n) && decide (n ≤ m)
theorem within_any (w : World) (n m : Int) :
    Calls Tryz.prog 140 #[.int .i64 n, .int .i64 m] w fun e w' => e = .returned (.bool (inB n m)) ∧ w' = w := by
 by_cases h1 : 1 ≤ n
 ·have E : Hid (inB n m = decide (n ≤ m)) := by show _ = _; simp [inB, h1]
  rw [E.out]
  go_enter Tryz.func140, Tryz.ntmps140
  go_wp2_with fail
  go_ret
  exact ⟨rfl, rfl⟩
 ·have E : Hid (inB n m = false) := by show _ = _; simp [inB, h1]
  rw [E.out]
  go_enter Tryz.func140, Tryz.ntmps140
  go_wp2_with fail
  go_ret
  exact ⟨rfl, rfl⟩
theorem mark_any (w : World) (s : Crc.R) :
    Calls Tryz.prog 176 #[.int .u32 (s.toNat : Int)] w fun e w' => ∃ v', e = .returned v' ∧ w'.ownsRow w.heap.size 5 1 v' (fmark s).length (bvals (fmark s)) ∧ Below w.heap.size w w' := by
 have hm := Crc.lt32 (Crc.maskOf s)
 have HM := hide hm
 clear hm
 go_enter Tryz.func176, Tryz.ntmps176
 go_wp2_with fail
 refine (Crc.mask_any _ s).mono ?_
 rintro e _ ⟨rfl, rfl⟩
 go_wp2_with fail
 refine (fixed32_any _ _ (by omega) (by have := HM.out; omega)).mono ?_
 rintro e w1 ⟨v1, rfl, ho, hb⟩
 rw [Int.toNat_natCast] at ho
 replace ho := hide ho
 go_wp2_with fail
 go_ret
 exact ⟨_, rfl, ho.out, hb⟩
theorem frameFields_any (w : World) (lsn : Int) (n : Nat) (h0 : 1 ≤ lsn) (h1 : lsn ≤ 9223372036854775807) (hn : n ≤ 4096) :
    Calls Tryz.prog 143 #[.int .i64 lsn, .int .i64 (n : Int)] w fun e w' => ∃ v', e = .returned v' ∧ w'.ownsRow w.heap.size 5 1 v' (ffs lsn.toNat n).length (bvals (ffs lsn.toNat n)) ∧ Below w.heap.size w w' := by
 have HN := hide hn
 go_enter Tryz.func143, Tryz.ntmps143
 go_wp2_with fail
 refine (fixed32_any w (n : Int) (by omega) (by omega)).mono ?_
 rintro e w1 ⟨v1, rfl, ho1, hb1⟩
 rw [Int.toNat_natCast] at ho1
 have s1 := hide (Sl.of_owns ho1)
 obtain ⟨ao1, ca1, rfl⟩ : ∃ ao ca, v1 = .slice ao 4 ca := by
  obtain ⟨ao, ca, h, _⟩ := s1.out
  exact ⟨ao, ca, by rw [h, fx_len]⟩
 replace hb1 := hide hb1
 clear ho1
 go_wp2_with fail
 refine (fixed64_any w1 lsn (by omega) (by omega)).mono ?_
 rintro e w2 ⟨v2, rfl, ho2, hb2⟩
 have s2 := hide (Sl.of_owns ho2)
 obtain ⟨ao2, ca2, rfl⟩ : ∃ ao ca, v2 = .slice ao 8 ca := by
  obtain ⟨ao, ca, h, _⟩ := s2.out
  exact ⟨ao, ca, by rw [h, fx_len]⟩
 replace hb2 := hide hb2
 clear ho2
 go_wp2_with fail
 refine (concat_any (w2.alloc (.cells #[.slice ao1 4 ca1, .slice ao2 8 ca2] 54)) _ [.slice ao1 4 ca1, .slice ao2 8 ca2] [fx 4 n, fx 8 lsn.toNat] (row_lit w2 [_, _] 54 (by show 2 ≤ maxLen; decide)) (Below.sls (box_below w2 _) (.cons (Below.sl hb2.out s1.out) (.cons s2.out (.nil _)))) (by simp [fx_len])).mono ?_
 rintro e w3 ⟨v3, rfl, ho3, hb3⟩
 have hb03 : Below w.heap.size w w3 := keepF (keepF (keepF hb1.out hb2.out) (box_below w2 _)) hb3
 have ho : Hid (w3.ownsRow w.heap.size 5 1 v3 (ffs lsn.toNat n).length (bvals (ffs lsn.toNat n))) := by
  have := owns_lower ho3 (b' := w.heap.size) (by have := (keepF (keepF hb1.out hb2.out) (box_below w2 (.cells #[.slice ao1 4 ca1, .slice ao2 8 ca2] 54))).size; exact this)
  have e : [fx 4 n, fx 8 lsn.toNat].flatten = ffs lsn.toNat n := by simp [ffs]
  rw [e] at this
  exact this
 clear ho3
 go_wp2_with fail
 go_ret
 exact ⟨_, rfl, ho.out, hb03⟩
theorem Sl.form {w : World} {v : Value} {l : List UInt8} {n : Nat} (h : Sl w v l) (hn : l.length = n) : ∃ ao ca, v = .slice ao n ca := by
 obtain ⟨ao, ca, h, _⟩ := h
 exact ⟨ao, ca, by rw [h, hn]⟩
theorem frameSum_any (w : World) (seed : Crc.R) (lsn : Nat) (vf vd : Value) (d : List UInt8) (hf : Sl w vf (ffs lsn d.length)) (hd : Sl w vd d) (hn : d.length ≤ 4096) :
    Calls Tryz.prog 142 #[.int .u32 (seed.toNat : Int), vf, vd] w fun e w' => e = .returned (.int .u32 ((fsum seed lsn d).toNat : Int)) ∧ Below w.heap.size w w' := by
 have HN := hide hn
 have HF := hide hf
 have HD := hide hd
 obtain ⟨ao2, ca2, rfl⟩ := hf.form (ffs_len _ _)
 obtain ⟨m, hm⟩ : ∃ m, Hid (d.length = m) := ⟨_, rfl⟩
 obtain ⟨ao3, ca3, rfl⟩ := hd.form hm.out
 have HS := hide (Crc.lt32 seed)
 obtain ⟨S, hS⟩ : ∃ S, Hid (fsum seed lsn d = S) := ⟨_, rfl⟩
 rw [hS.out]
 have E : Hid (Crc.more 0#32 (fx 4 seed.toNat ++ (ffs lsn d.length ++ d)) = S) := hS
 clear hn hf hd
 go_enter Tryz.func142, Tryz.ntmps142
 go_wp2_with fail
 refine (fixed32_any w (seed.toNat : Int) (by omega) (by have := HS.out; omega)).mono ?_
 rintro e w1 ⟨v1, rfl, ho1, hb1⟩
 rw [Int.toNat_natCast] at ho1
 have s1 := hide (Sl.of_owns ho1)
 obtain ⟨ao1, ca1, rfl⟩ := s1.out.form (fx_len _ _)
 replace hb1 := hide hb1
 clear ho1
 go_wp2_with fail
 refine (concat_any (w1.alloc (.cells #[.slice ao1 4 ca1, .slice ao2 12 ca2, .slice ao3 m ca3] 54)) _ [.slice ao1 4 ca1, .slice ao2 12 ca2, .slice ao3 m ca3] [fx 4 seed.toNat, ffs lsn d.length, d] (row_lit w1 [_, _, _] 54 (by show 3 ≤ maxLen; decide)) (Below.sls (box_below w1 _) (.cons s1.out (.cons (Below.sl hb1.out HF.out) (.cons (Below.sl hb1.out HD.out) (.nil _))))) (by have := HN.out; simp [fx_len, ffs_len]; omega)).mono ?_
 rintro e w3 ⟨v3, rfl, ho3, hb3⟩
 have e1 : [fx 4 seed.toNat, ffs lsn d.length, d].flatten = fx 4 seed.toNat ++ (ffs lsn d.length ++ d) := by simp
 rw [e1] at ho3
 have s3 := hide (Sl.of_owns ho3)
 have hb03 := hide (keepF (keepF hb1.out (box_below w1 _)) hb3)
 clear ho3 hb3 e1
 go_wp2_with fail
 refine (Crc.sum_any _ _ _ s3.out).mono ?_
 rintro e w4 ⟨rfl, hb4⟩
 have hb04 := hide (keepF hb03.out hb4)
 rw [E.out]
 clear hb4
 go_wp2_with fail
 go_ret
 exact ⟨rfl, hb04.out⟩
def wrF (seed : Crc.R) (lsn : Int) (d : List UInt8) : List UInt8 × Crc.R × Int :=
 if inB lsn 9223372036854775806 = false then ([], 0#32, 1) else if 4096 < d.length then ([], 0#32, 3) else (frm seed lsn.toNat d, fsum seed lsn.toNat d, 0)
def DoesWrite (f : Nat) : Prop := ∀ (w : World) (seed : Crc.R) (lsn : Int) (v : Value) (d : List UInt8), -9223372036854775808 ≤ lsn → lsn ≤ 9223372036854775807 → Sl w v d →
 Calls Tryz.prog f #[.int .u32 (seed.toNat : Int), .int .i64 lsn, v] w fun e w' => ∃ v', e = .returned (.tuple #[v', .int .u32 ((wrF seed lsn d).2.1.toNat : Int), .int .i64 (wrF seed lsn d).2.2]) ∧ w'.ownsRow w.heap.size 5 1 v' (wrF seed lsn d).1.length (bvals (wrF seed lsn d).1) ∧ Below w.heap.size w w'
theorem write_any : DoesWrite 128 := by
 intro w seed lsn v d g0 g1 hv
 have HV := hide hv
 obtain ⟨m, hm⟩ : ∃ m, Hid (d.length = m) := ⟨_, rfl⟩
 obtain ⟨ao3, ca3, rfl⟩ := hv.form hm.out
 clear hv
 cases hb : inB lsn 9223372036854775806 with
 | false =>
  have E : Hid (wrF seed lsn d = ([], 0#32, 1)) := by show _ = _; simp [wrF, hb]
  rw [E.out]
  replace hb := hide hb
  go_enter Tryz.func128, Tryz.ntmps128
  go_wp2_with fail
  refine (within_any _ lsn 9223372036854775806).mono ?_
  rintro e _ ⟨rfl, rfl⟩
  rw [hb.out]
  go_wp2_with fail
  go_ret3
  exact ⟨_, rfl, World.ownsRow_nil _ _ _ _, Below.refl _ _⟩
 | true =>
  replace hb := hide hb
  by_cases hl : 4096 < m
  ·have E : Hid (wrF seed lsn d = ([], 0#32, 3)) := by show _ = _; simp [wrF, hb.out, hm.out, hl]
   rw [E.out]
   go_enter Tryz.func128, Tryz.ntmps128
   go_wp2_with fail
   refine (within_any _ lsn 9223372036854775806).mono ?_
   rintro e _ ⟨rfl, rfl⟩
   rw [hb.out]
   go_wp2_with fail
   go_ret3
   exact ⟨_, rfl, World.ownsRow_nil _ _ _ _, Below.refl _ _⟩
  ·have E : Hid (wrF seed lsn d = (frm seed lsn.toNat d, fsum seed lsn.toNat d, 0)) := by show _ = _; simp [wrF, hb.out, hm.out, hl]
   rw [E.out]
   have HL : Hid (1 ≤ lsn) := by have := hb.out; simp [inB] at this; exact this.1
   have hm4 : Hid (m ≤ 4096) := by show _ ≤ _; omega
   obtain ⟨S, hS⟩ : ∃ S, Hid (fsum seed lsn.toNat d = S) := ⟨_, rfl⟩
   have E2 : Hid (frm seed lsn.toNat d = [ffs lsn.toNat d.length, fmark S, d].flatten) := by show _ = _; rw [frm, hS.out]; simp
   rw [E2.out, hS.out]
   obtain ⟨F, hF⟩ : ∃ F, Hid ([ffs lsn.toNat d.length, fmark S, d].flatten = F) := ⟨_, rfl⟩
   rw [hF.out]
   go_enter Tryz.func128, Tryz.ntmps128
   go_wp2_with fail
   refine (within_any _ lsn 9223372036854775806).mono ?_
   rintro e w0 ⟨rfl, hw⟩
   obtain rfl := hw.symm
   rw [hb.out]
   go_wp2_with fail
   refine (frameFields_any _ lsn m HL.out g1 hm4.out).mono ?_
   rintro e w1 ⟨v1, rfl, ho1, hb1⟩
   rw [← hm.out] at ho1
   have s1 := hide (Sl.of_owns ho1)
   obtain ⟨ao1, ca1, rfl⟩ := s1.out.form (ffs_len _ _)
   replace hb1 := hide hb1
   clear ho1
   go_wp2_with fail
   refine (frameSum_any _ seed lsn.toNat _ _ d s1.out (Below.sl hb1.out HV.out) (by rw [hm.out]; exact hm4.out)).mono ?_
   rintro e w2 ⟨rfl, hb2⟩
   replace hb2 := hide hb2
   rw [hS.out]
   go_wp2_with fail
   refine (mark_any _ S).mono ?_
   rintro e w3 ⟨v3, rfl, ho3, hb3⟩
   have s3 := hide (Sl.of_owns ho3)
   obtain ⟨ao2, ca2, rfl⟩ := s3.out.form (fmark_len _)
   have hb03 := hide (keepF hb1.out (keepF hb2.out hb3))
   have hb13 := hide (keepF hb2.out hb3)
   clear ho3 hb3
   go_wp2_with fail
   refine (concat_any (w3.alloc (.cells #[.slice ao1 12 ca1, .slice ao2 4 ca2, .slice ao3 m ca3] 54)) _ [.slice ao1 12 ca1, .slice ao2 4 ca2, .slice ao3 m ca3] [ffs lsn.toNat d.length, fmark S, d] (row_lit w3 [_, _, _] 54 (by show 3 ≤ maxLen; decide)) (Below.sls (box_below w3 _) (.cons (Below.sl hb13.out s1.out) (.cons s3.out (.cons (Below.sl hb03.out HV.out) (.nil _))))) (by have := hm4.out; simp [fmark_len, ffs_len, hm.out]; omega)).mono ?_
   rintro e w4 ⟨v4, rfl, ho4, hb4⟩
   have hb04 := hide (keepF (keepF hb03.out (box_below w3 _)) hb4)
   have ho5 := hide (owns_lower ho4 (b' := w.heap.size) (keepF hb03.out (box_below w3 _)).size)
   clear hb4 ho4
   rw [hF.out] at ho5
   go_wp2_with fail
   go_ret3
   exact ⟨_, rfl, ho5.out, hb04.out⟩
def szF (n : Int) : Int := if 0 ≤ n ∧ n ≤ 4096 then 16 + n else 0
theorem size_any (w : World) (n : Int) : Calls Tryz.prog 52 #[.int .i64 n] w fun e w' => e = .returned (.int .i64 (szF n)) ∧ w' = w := by
 by_cases h0 : n < 0
 ·have E : Hid (szF n = 0) := by show _ = _; rw [szF, if_neg (by omega)]
  rw [E.out]
  go_enter Tryz.func52, Tryz.ntmps52
  go_wp2_with fail
  go_ret
  exact ⟨rfl, rfl⟩
 ·by_cases h1 : n > 4096
  ·have E : Hid (szF n = 0) := by show _ = _; rw [szF, if_neg (by omega)]
   rw [E.out]
   go_enter Tryz.func52, Tryz.ntmps52
   go_wp2_with fail
   go_ret
   exact ⟨rfl, rfl⟩
  ·have E : Hid (szF n = 16 + n) := by show _ = _; rw [szF, if_pos (by omega)]
   rw [E.out]
   go_enter Tryz.func52, Tryz.ntmps52
   go_wp2_with fail
   go_ret
   exact ⟨rfl, rfl⟩
def RdrAt (w : World) (rb : Nat) (l : List UInt8) (k : Nat) (er : Int) : Prop :=
 ∃ v, w.heap[rb]? = some (.cells #[v, .int .i64 (k : Int), .int .i64 er] 224 (0, 0)) ∧ w.ownsRow 0 5 1 v l.length (bvals l) ∧ k ≤ l.length ∧ l.length ≤ 140737488355328
theorem sl_drop {w : World} {ao : Option Addr} {ca : Nat} {l : List UInt8} (k : Nat) (hk : k ≤ l.length) (g2 : ao = none → l = [] ∧ ca = 0) (g3 : l.length ≤ ca) (g4 : ca ≤ maxLen) (g5 : Rd w ao l) :
    Sl w (.slice (if ca = k then ao else Option.map (fun x => x.add k) ao) (l.length - k) (ca - k)) (l.drop k) := by
 refine ⟨_, _, by rw [List.length_drop], ?_, by rw [List.length_drop]; omega, by omega, ?_⟩
 ·intro e
  have : ao = none := by
   split at e
   ·exact e
   ·simpa using e
  obtain ⟨rfl, rfl⟩ := g2 this
  exact ⟨by simp, by omega⟩
 ·intro i hi
  have hi2 : k + i < l.length := by simp at hi; omega
  obtain ⟨b, off, rfl, hc⟩ := g5 (k + i) hi2
  rw [if_neg (by omega)]
  refine ⟨b, off + k, by simp [addr_add], ?_⟩
  rw [Nat.add_assoc, hc]
  simp
theorem check_ok (w : World) : Calls Tryz.prog 193 #[.int .i64 0] w fun e w' => e = .returned (.tuple #[]) ∧ w' = w := by
 go_enter Tryz.func193, Tryz.ntmps193
 go_wp2
 go_end0
 exact ⟨rfl, rfl⟩
theorem check_no (w : World) (er : Int) (h : (er != 0) = true) : Calls Tryz.prog 193 #[.int .i64 er] w fun e w' => e = .panicked [{ v := .iface 269 (.int .i64 er), recovered := false }] ∧ w' = w := by
 go_enter Tryz.func193, Tryz.ntmps193
 go_wp2
 exact ⟨rfl, rfl, rfl⟩
theorem stop_nil (w : World) (r : Option Addr) : Calls Tryz.prog 153 #[.pointer r, .nilIface] w fun e w' => e = .returned (.tuple #[]) ∧ w' = w := by
 have he : ∀ u : World, (binOp .eql 20 .nilIface .nilIface).run Tryz.prog u = .ok (.bool true) u := fun _ => by kernel_rfl
 go_enter Tryz.func153, Tryz.ntmps153
 go_wp2
 go_end0
 exact ⟨rfl, rfl⟩
theorem stop_some (w : World) (rb : Nat) (er : Int) (v : Value) (k : Int) (e0 : Int) (hr : w.heap[rb]? = some (.cells #[v, .int .i64 k, .int .i64 e0] 224 (0, 0))) :
    Calls Tryz.prog 153 #[.pointer (some ⟨rb, 0, none⟩), .iface 269 (.int .i64 er)] w fun e w' => e = .returned (.tuple #[]) ∧ w' = w.setCell ⟨rb, 2, none⟩ (.int .i64 er) := by
 have h2 : w.cell? ⟨rb, 2, none⟩ = some (.int .i64 e0) := by simp [World.cell?, hr]
 have hf2 : w.frozen? ⟨rb, 2, none⟩ = false := by simp [World.frozen?, hr]
 have he : ∀ (er : Int) (u : World), (binOp .eql 20 (.iface 269 (.int .i64 er)) .nilIface).run Tryz.prog u = .ok (.bool false) u := fun _ _ => by kernel_rfl
 have ht : ∀ (er : Int) (u : World), (Instr.typeAssert (.iface 269 (.int .i64 er)) 20 269 true).run Tryz.prog u = .ok (.tuple #[.int .i64 er, .bool true]) u := fun _ _ => by kernel_rfl
 clear hr
 go_enter Tryz.func153, Tryz.ntmps153
 go_wp2
 go_end0
 exact ⟨rfl, rfl⟩
theorem rest_no (w : World) (rb : Nat) (l : List UInt8) (k : Nat) (er : Int) (h : RdrAt w rb l k er) (he : (er != 0) = true) :
    Calls Tryz.prog 192 #[.pointer (some ⟨rb, 0, none⟩)] w fun e w' => e = .panicked [{ v := .iface 269 (.int .i64 er), recovered := false }] ∧ w' = w := by
 obtain ⟨v, hr, _⟩ := h
 have h2 : w.cell? ⟨rb, 2, none⟩ = some (.int .i64 er) := by simp [World.cell?, hr]
 clear hr
 go_enter Tryz.func192, Tryz.ntmps192
 go_wp2_with fail
 refine (check_no _ er he).mono ?_
 rintro e w2 ⟨rfl, rfl⟩
 go_wp2
 exact ⟨rfl, rfl, rfl⟩
theorem rest_ok (w : World) (rb : Nat) (l : List UInt8) (k : Nat) (h : RdrAt w rb l k 0) :
    Calls Tryz.prog 192 #[.pointer (some ⟨rb, 0, none⟩)] w fun e w' => ∃ v', e = .returned v' ∧ Sl w v' (l.drop k) ∧ Qt w w' := by
 obtain ⟨v, hr, ho, hk, hl⟩ := h
 have hsl := Sl.of_owns ho
 obtain ⟨ao, ca, rfl, g2, g3, g4, g5⟩ := hsl
 have h0 : w.cell? ⟨rb, 0, none⟩ = some (.slice ao l.length ca) := by simp [World.cell?, hr]
 have h1 : w.cell? ⟨rb, 1, none⟩ = some (.int .i64 (k : Int)) := by simp [World.cell?, hr]
 have h2 : w.cell? ⟨rb, 2, none⟩ = some (.int .i64 0) := by simp [World.cell?, hr]
 have hm : ca ≤ 9223372036854775807 := by unfold maxLen at g4; omega
 clear hr ho
 go_enter Tryz.func192, Tryz.ntmps192
 go_wp2_with fail
 refine (check_ok _).mono ?_
 rintro e w2 ⟨rfl, rfl⟩
 go_wp2
 have HS := fun (u : World) (hu : Qt w2 u) => hu.sl (sl_drop k hk g2 g3 g4 g5)
 generalize hz : (if ca = k then ao else Option.map (fun x : Addr => x.add k) ao) = zo at *
 clear g2 g3 g4 g5
 go_quiet (fail)
 clear hz
 go_wp2
 go_ret
 exact ⟨_, rfl, HS _ (Qt.refl _), ⟨_, rfl⟩⟩
theorem RdrAt.lt {w : World} {rb : Nat} {l : List UInt8} {k : Nat} {er : Int} (h : RdrAt w rb l k er) : rb < w.heap.size := by
 obtain ⟨v, hr, _⟩ := h; exact heap_lt hr
theorem RdrAt.below {w w' : World} {rb : Nat} {l : List UInt8} {k : Nat} {er : Int} (h : RdrAt w rb l k er) (hb : Below w.heap.size w w') : RdrAt w' rb l k er := by
 obtain ⟨v, hr, ho, hk⟩ := h
 exact ⟨v, by rw [hb.block rb (heap_lt hr)]; exact hr, ownsRow_below ho hb, hk⟩
theorem RdrAt.apart {w : World} {rb : Nat} {v x y z : Value} {n : Nat} {xs : List Value} (hr : w.heap[rb]? = some (.cells #[x, y, z] 224 (0, 0))) (ho : w.ownsRow 0 5 1 v n xs) : v.ownBlock ≠ some rb := by
 obtain ⟨h1, h2⟩ := ho
 rcases h2 with ⟨rfl, _⟩ | ⟨g, cap, cur, rfl, hg, hh, _⟩
 ·simp [Value.ownBlock]
 ·intro e
  simp [Value.ownBlock] at e
  subst e
  rw [hr] at hh
  simp at hh
theorem RdrAt.setAt {w : World} {rb : Nat} {l : List UInt8} {k : Nat} {er : Int} (h : RdrAt w rb l k er) (k' : Nat) (hk' : k' ≤ l.length) : RdrAt (w.setCell ⟨rb, 1, none⟩ (.int .i64 (k' : Int))) rb l k' er := by
 obtain ⟨v, hr, ho, hk, hl⟩ := h
 refine ⟨v, ?_, ownsRow_setCell_other ho (RdrAt.apart hr ho) _, hk', hl⟩
 rw [heap_setCell_same w rb 1 _ _ _ hr]; simp
theorem RdrAt.setErr {w : World} {rb : Nat} {l : List UInt8} {k : Nat} {er : Int} (h : RdrAt w rb l k er) (er' : Int) : RdrAt (w.setCell ⟨rb, 2, none⟩ (.int .i64 er')) rb l k er' := by
 obtain ⟨v, hr, ho, hk, hl⟩ := h
 refine ⟨v, ?_, ownsRow_setCell_other ho (RdrAt.apart hr ho) _, hk, hl⟩
 rw [heap_setCell_same w rb 2 _ _ _ hr]; simp
theorem own_slice {w : World} {base e n : Nat} {v : Value} {xs : List Value} (ho : w.ownsRow base e 1 v n xs) : ∃ ao ca, v = .slice ao n ca := by
 obtain ⟨h1, h2⟩ := ho
 rcases h2 with ⟨rfl, rfl⟩ | ⟨g, cap, cur, rfl, _⟩
 ·exact ⟨_, _, rfl⟩
 ·exact ⟨_, _, rfl⟩
theorem RdrAt.noByte {w : World} {rb : Nat} {m : List UInt8} {k : Nat} {er : Int} (h : RdrAt w rb m k er) {j : Nat} {c : Int} (hc : w.cell? ⟨rb, j, none⟩ = some (.int .u8 c)) : False := by
 obtain ⟨v, hr, ho, _⟩ := h
 obtain ⟨ao, ca, rfl⟩ := own_slice ho
 simp [World.cell?, hr] at hc
 match j, hc with
 | 0, hc => simp at hc
 | 1, hc => simp at hc
 | 2, hc => simp at hc
 | j + 3, hc => simp at hc
theorem Sl.setRdr {w : World} {rb o : Nat} {u v : Value} {l m : List UInt8} {k : Nat} {er : Int} (h : Sl w v l) (hr : RdrAt w rb m k er) : Sl (w.setCell ⟨rb, o, none⟩ u) v l := by
 obtain ⟨ao, cap, rfl, h2, h3, h4, h5⟩ := h
 refine ⟨ao, cap, rfl, h2, h3, h4, fun i hi => ?_⟩
 obtain ⟨b, off, rfl, hc⟩ := h5 i hi
 refine ⟨b, off, rfl, ?_⟩
 by_cases hb : b = rb
 ·subst hb; exact (hr.noByte hc).elim
 ·rw [World.cell?_of_block (w := w) (heap_setCell_other w ⟨rb, o, none⟩ b u hb)]
  exact hc
theorem take_no (w : World) (rb : Nat) (l : List UInt8) (k : Nat) (er n : Int) (h : RdrAt w rb l k er) (he : (er != 0) = true) :
    Calls Tryz.prog 155 #[.pointer (some ⟨rb, 0, none⟩), .int .i64 n] w fun e w' => e = .panicked [{ v := .iface 269 (.int .i64 er), recovered := false }] ∧ w' = w := by
 go_enter Tryz.func155, Tryz.ntmps155
 go_wp2_with fail
 refine (rest_no _ rb l k er h he).mono ?_
 rintro e w2 ⟨rfl, rfl⟩
 go_wp2
 exact ⟨rfl, rfl, rfl⟩
theorem take_short (w : World) (rb : Nat) (l : List UInt8) (k : Nat) (n : Int) (h : RdrAt w rb l k 0) (hn : (l.length : Int) - k < n) :
    Calls Tryz.prog 155 #[.pointer (some ⟨rb, 0, none⟩), .int .i64 n] w fun e w' => e = .panicked [{ v := .iface 269 (.int .i64 2), recovered := false }] ∧ Qt w w' := by
 have hk : k ≤ l.length := by obtain ⟨_, _, _, hk, _⟩ := h; exact hk
 go_enter Tryz.func155, Tryz.ntmps155
 go_wp2_with fail
 refine (rest_ok _ rb l k h).mono ?_
 rintro e w2 ⟨v, rfl, hs, hq⟩
 obtain ⟨ao, ca, rfl, g2, g3, g4, g5⟩ := hs
 have hlt : ((l.length - k : Nat) : Int) < n := by omega
 clear g2 g3 g4 g5 hn
 go_wp2_with fail
 refine (check_no _ 2 rfl).mono ?_
 rintro e w2 ⟨rfl, rfl⟩
 go_wp2
 exact ⟨rfl, rfl, hq⟩
theorem take_ok (w : World) (rb : Nat) (l : List UInt8) (k n : Nat) (h : RdrAt w rb l k 0) (hn : k + n ≤ l.length) :
    Calls Tryz.prog 155 #[.pointer (some ⟨rb, 0, none⟩), .int .i64 (n : Int)] w fun e w' => ∃ v', e = .returned v' ∧ Sl w' v' ((l.drop k).take n) ∧ RdrAt w' rb l (k + n) 0 ∧ w.grownBy w' (some rb) := by
 go_enter Tryz.func155, Tryz.ntmps155
 go_wp2_with fail
 refine (rest_ok _ rb l k h).mono ?_
 rintro e w2 ⟨v, rfl, hs, hq⟩
 have h' := h.below (hq.below _)
 have hs2 := hq.sl hs
 have hk : (l.drop k).length = l.length - k := by simp
 obtain ⟨ao, ca, rfl, g2, g3, g4, g5⟩ := hs2
 obtain ⟨v0, hr, ho, hkl, hl⟩ := h'
 have h1 : w2.cell? ⟨rb, 1, none⟩ = some (.int .i64 (k : Int)) := by simp [World.cell?, hr]
 have hf1 : w2.frozen? ⟨rb, 1, none⟩ = false := by simp [World.frozen?, hr]
 have HS : Hid (Sl w2 (.slice ao n ca) ((l.drop k).take n)) := by
  have hl2 : ((l.drop k).take n).length = n := by simp; omega
  refine ⟨ao, ca, by rw [hl2], fun e => ?_, by omega, g4, fun i hi => ?_⟩
  ·obtain ⟨e1, e2⟩ := g2 e
   exact ⟨by rw [e1]; simp, e2⟩
  ·obtain ⟨b, off, e1, hc⟩ := g5 i (by omega)
   exact ⟨b, off, e1, by rw [hc]; simp⟩
 have HR : Hid (RdrAt w2 rb l k 0) := ⟨v0, hr, ho, hkl, hl⟩
 have hlen : ((l.drop k).length : Int) = (l.length : Int) - k := by simp; omega
 rw [hk] at g3 ⊢
 clear g2 g4 g5 hr ho hs h hk hlen
 go_wp2
 go_ret
 refine ⟨_, rfl, ?_, ?_, grown_trans (hq.grown _) (grown_setCell _ _ _ _)⟩
 ·exact HS.out.setRdr HR.out
 ·exact HR.out.setAt (k + n) hn
theorem wpS_region_draw {P : Program} {Q : Exit → Act → List Frame → World → Prop} {a : Act} {cs : List Frame} {w : World} {id : Nat} {ops : Array Oper}
    (h : ∀ t, wpOpsS P ops Q (Region.schedule (P.follows .mixedOrders) ops t) a cs { w with drawn := w.drawn + 1 }) : (Code.region id ops true).wpS P Q a cs w :=
 fun b k hb hr => let ⟨e, a', cs', w', q, r⟩ := wp_opsS _ a cs _ (h _) b k hb hr; ⟨e, a', cs', w', q, .of_steps (.one step_region_draw) r⟩
theorem go_step {md : Region.Mode} {ops : Array Oper} {fuel t : Nat} {listed : Array Bool} {acc r : List Nat} {i : Nat} (h : Region.ready md ops listed = r) (hi : r[t % r.length]? = some i) :
    Region.linearise.go md ops (fuel + 1) t listed acc = Region.linearise.go md ops fuel (t / r.length) (listed.setIfInBounds i true) (i :: acc) := by
 show (match (Region.ready md ops listed)[t % (Region.ready md ops listed).length]? with
     | some i => Region.linearise.go md ops fuel (t / (Region.ready md ops listed).length) (listed.setIfInBounds i true) (i :: acc)
     | none => acc.reverse) = _
 rw [h, hi]
theorem schedule_two {ops : Array Oper} (hs : ops.size = 3) (h0 : Region.ready .any ops #[false, false, false] = [0, 1]) (h1 : Region.ready .any ops #[true, false, false] = [1]) (h2 : Region.ready .any ops #[false, true, false] = [0]) (h3 : Region.ready .any ops #[true, true, false] = [2]) (t : Nat) :
    Region.schedule true ops t = [0, 1, 2] ∨ Region.schedule true ops t = [1, 0, 2] := by
 have e : Region.schedule true ops t = Region.linearise.go .any ops 3 t #[false, false, false] [] := by
  show Region.linearise.go .any ops ops.size t (Array.replicate ops.size false) [] = _
  rw [hs]; rfl
 rw [e]
 rcases Nat.mod_two_eq_zero_or_one t with ht | ht
 ·left
  rw [go_step h0 (i := 0) (by simp [ht])]
  show Region.linearise.go .any ops 2 (t / 2) #[true, false, false] [0] = _
  rw [go_step h1 (i := 1) (by simp [Nat.mod_one])]
  show Region.linearise.go .any ops 1 (t / 2 / 1) #[true, true, false] [1, 0] = _
  rw [go_step h3 (i := 2) (by simp [Nat.mod_one])]
  rfl
 ·right
  rw [go_step h0 (i := 1) (by simp [ht])]
  show Region.linearise.go .any ops 2 (t / 2) #[false, true, false] [1] = _
  rw [go_step h2 (i := 0) (by simp [Nat.mod_one])]
  show Region.linearise.go .any ops 1 (t / 2 / 1) #[true, true, false] [0, 1] = _
  rw [go_step h3 (i := 2) (by simp [Nat.mod_one])]
  rfl
theorem shut_idle_Fixed32 (w : World) (rp : Option Addr) (p : Addr) (hp : w.cell? p = some (.pointer rp)) :
    CallsD Tryz.prog 152 #[.pointer (some p)] .returning w fun e u' w' => e = .returned (.tuple #[]) ∧ u' = .returning ∧ w' = w.drew := by
 refine callsD_of_wpS Tryz.func152 rfl fun c₀ cs hu => ?_
 refine wpS_region_draw fun t => ?_
 rw [show Tryz.prog.follows .mixedOrders = true by kernel_rfl]
 rcases schedule_two (t := t) (by kernel_rfl) (by kernel_rfl) (by kernel_rfl) (by kernel_rfl) (by kernel_rfl) with h | h
 all_goals
  rw [h]
  simp [wpOpsS, go_sem, recoverD, hu, Tryz.ntmps152, hp]
  refine (stop_nil _ rp).mono ?_
  rintro e w2 ⟨rfl, rfl⟩
  cases c₀
  simp_all [bodyPostS, results, Tryz.results152]
theorem shut_some_Fixed32 (w : World) (p : Addr) (rb : Nat) (er : Int) (v : Value) (k e0 : Int) (older : List PanicEntry) (hp : w.cell? p = some (.pointer (some ⟨rb, 0, none⟩))) (hr : w.heap[rb]? = some (.cells #[v, .int .i64 k, .int .i64 e0] 224 (0, 0))) :
    CallsD Tryz.prog 152 #[.pointer (some p)] (.panicking ({ v := .iface 269 (.int .i64 er), recovered := false } :: older)) w fun e u' w' => e = .returned (.tuple #[]) ∧ u' = .panicking ({ v := .iface 269 (.int .i64 er), recovered := true } :: older) ∧ w' = w.drew.setCell ⟨rb, 2, none⟩ (.int .i64 er) := by
 refine callsD_of_wpS Tryz.func152 rfl fun c₀ cs hu => ?_
 refine wpS_region_draw fun t => ?_
 rw [show Tryz.prog.follows .mixedOrders = true by kernel_rfl]
 rcases schedule_two (t := t) (by kernel_rfl) (by kernel_rfl) (by kernel_rfl) (by kernel_rfl) (by kernel_rfl) with h | h
 all_goals
  rw [h]
  simp [wpOpsS, go_sem, recoverD, hu, Tryz.ntmps152, hp]
  refine (stop_some w.drew rb er v k e0 hr).mono ?_
  rintro e w2 ⟨rfl, rfl⟩
  cases c₀
  simp_all [bodyPostS, results, Tryz.results152]
  rfl
theorem shut_idle_Fixed64 (w : World) (rp : Option Addr) (p : Addr) (hp : w.cell? p = some (.pointer rp)) :
    CallsD Tryz.prog 213 #[.pointer (some p)] .returning w fun e u' w' => e = .returned (.tuple #[]) ∧ u' = .returning ∧ w' = w.drew := by
 refine callsD_of_wpS Tryz.func213 rfl fun c₀ cs hu => ?_
 refine wpS_region_draw fun t => ?_
 rw [show Tryz.prog.follows .mixedOrders = true by kernel_rfl]
 rcases schedule_two (t := t) (by kernel_rfl) (by kernel_rfl) (by kernel_rfl) (by kernel_rfl) (by kernel_rfl) with h | h
 all_goals
  rw [h]
  simp [wpOpsS, go_sem, recoverD, hu, Tryz.ntmps213, hp]
  refine (stop_nil _ rp).mono ?_
  rintro e w2 ⟨rfl, rfl⟩
  cases c₀
  simp_all [bodyPostS, results, Tryz.results213]
theorem shut_some_Fixed64 (w : World) (p : Addr) (rb : Nat) (er : Int) (v : Value) (k e0 : Int) (older : List PanicEntry) (hp : w.cell? p = some (.pointer (some ⟨rb, 0, none⟩))) (hr : w.heap[rb]? = some (.cells #[v, .int .i64 k, .int .i64 e0] 224 (0, 0))) :
    CallsD Tryz.prog 213 #[.pointer (some p)] (.panicking ({ v := .iface 269 (.int .i64 er), recovered := false } :: older)) w fun e u' w' => e = .returned (.tuple #[]) ∧ u' = .panicking ({ v := .iface 269 (.int .i64 er), recovered := true } :: older) ∧ w' = w.drew.setCell ⟨rb, 2, none⟩ (.int .i64 er) := by
 refine callsD_of_wpS Tryz.func213 rfl fun c₀ cs hu => ?_
 refine wpS_region_draw fun t => ?_
 rw [show Tryz.prog.follows .mixedOrders = true by kernel_rfl]
 rcases schedule_two (t := t) (by kernel_rfl) (by kernel_rfl) (by kernel_rfl) (by kernel_rfl) (by kernel_rfl) with h | h
 all_goals
  rw [h]
  simp [wpOpsS, go_sem, recoverD, hu, Tryz.ntmps213, hp]
  refine (stop_some w.drew rb er v k e0 hr).mono ?_
  rintro e w2 ⟨rfl, rfl⟩
  cases c₀
  simp_all [bodyPostS, results, Tryz.results213]
  rfl
theorem box_cell {w w2 : World} {rb : Nat} {v : Value} {t : TypeId} (hlt : rb < w.heap.size) (hg : (w.alloc (.cells #[v] t)).grownBy w2 (some rb)) : w2.cell? ⟨w.heap.size, 0, none⟩ = some v := by
 refine hg.cell (a := ⟨w.heap.size, 0, none⟩) (by simp [go_sem]) (by simp; omega)
theorem box_grown {w w2 : World} {rb : Nat} {o : Obj} (hg : (w.alloc o).grownBy w2 (some rb)) : w.grownBy w2 (some rb) := grown_trans (Below.grownAny (box_below w o) _) hg
theorem grown_drew {w w2 : World} {row : Option Nat} (hg : w.grownBy w2 row) : w.grownBy w2.drew row := ⟨hg.os, hg.tape, hg.output, hg.size, hg.block⟩
theorem RdrAt.drew {w : World} {rb : Nat} {l : List UInt8} {k : Nat} {er : Int} (h : RdrAt w rb l k er) : RdrAt w.drew rb l k er := h
theorem Fixed32_bad (w : World) (rb : Nat) (l : List UInt8) (k : Nat) (er0 er : Int) (h : RdrAt w rb l k er0)
    (hc : ∀ u, RdrAt u rb l k er0 → Calls Tryz.prog 155 #[.pointer (some ⟨rb, 0, none⟩), .int .i64 4] u fun e w' => e = .panicked [{ v := .iface 269 (.int .i64 er), recovered := false }] ∧ Qt u w') :
    Calls Tryz.prog 107 #[.pointer (some ⟨rb, 0, none⟩)] w fun e w' => e = .returned (.int .u32 0) ∧ RdrAt w' rb l k er ∧ w.grownBy w' (some rb) := by
 have hmf : ∀ (fn : Fn) (first cap : Array Value) (w : World), (Instr.makeFunc fn first cap).run Tryz.prog w = .ok (.func fn first cap) w := fun _ _ _ _ => rfl
 have HC : Hid (∀ u, RdrAt u rb l k er0 → Calls Tryz.prog 155 #[.pointer (some ⟨rb, 0, none⟩), .int .i64 4] u fun e w' => e = .panicked [{ v := .iface 269 (.int .i64 er), recovered := false }] ∧ Qt u w') := hc
 clear hc
 have hlt := h.lt
 go_enter_defers Tryz.func107, Tryz.ntmps107
 go_wp2_with fail
 refine (HC.out _ (h.below (box_below w _))).mono ?_
 rintro e w2 ⟨rfl, hq⟩
 have hr2 := (h.below (box_below w _)).below (hq.below _)
 have hg2 := hq.grown (some rb)
 have hbx := box_cell hlt hg2
 go_wp2
 obtain ⟨v, hb, _⟩ := id hr2
 refine leaves_cons (f := 152) (args := #[.pointer (some ⟨w.heap.size, 0, none⟩)]) (by simp) (by simp [go_sem]) ?_
 refine (shut_some_Fixed32 w2 ⟨w.heap.size, 0, none⟩ rb er v k er0 [] hbx hb).mono ?_
 rintro e u' w'' ⟨rfl, rfl, rfl⟩
 simp [Leaves, settle, results, Tryz.results107, go_sem]
 exact ⟨hr2.setErr er, grown_trans (box_grown hg2) (grown_drew (grown_setCell _ _ _ _))⟩
theorem Fixed64_bad (w : World) (rb : Nat) (l : List UInt8) (k : Nat) (er0 er : Int) (h : RdrAt w rb l k er0)
    (hc : ∀ u, RdrAt u rb l k er0 → Calls Tryz.prog 155 #[.pointer (some ⟨rb, 0, none⟩), .int .i64 8] u fun e w' => e = .panicked [{ v := .iface 269 (.int .i64 er), recovered := false }] ∧ Qt u w') :
    Calls Tryz.prog 185 #[.pointer (some ⟨rb, 0, none⟩)] w fun e w' => e = .returned (.int .u64 0) ∧ RdrAt w' rb l k er ∧ w.grownBy w' (some rb) := by
 have hmf : ∀ (fn : Fn) (first cap : Array Value) (w : World), (Instr.makeFunc fn first cap).run Tryz.prog w = .ok (.func fn first cap) w := fun _ _ _ _ => rfl
 have HC : Hid (∀ u, RdrAt u rb l k er0 → Calls Tryz.prog 155 #[.pointer (some ⟨rb, 0, none⟩), .int .i64 8] u fun e w' => e = .panicked [{ v := .iface 269 (.int .i64 er), recovered := false }] ∧ Qt u w') := hc
 clear hc
 have hlt := h.lt
 go_enter_defers Tryz.func185, Tryz.ntmps185
 go_wp2_with fail
 refine (HC.out _ (h.below (box_below w _))).mono ?_
 rintro e w2 ⟨rfl, hq⟩
 have hr2 := (h.below (box_below w _)).below (hq.below _)
 have hg2 := hq.grown (some rb)
 have hbx := box_cell hlt hg2
 go_wp2
 obtain ⟨v, hb, _⟩ := id hr2
 refine leaves_cons (f := 213) (args := #[.pointer (some ⟨w.heap.size, 0, none⟩)]) (by simp) (by simp [go_sem]) ?_
 refine (shut_some_Fixed64 w2 ⟨w.heap.size, 0, none⟩ rb er v k er0 [] hbx hb).mono ?_
 rintro e u' w'' ⟨rfl, rfl, rfl⟩
 simp [Leaves, settle, results, Tryz.results185, go_sem]
 exact ⟨hr2.setErr er, grown_trans (box_grown hg2) (grown_drew (grown_setCell _ _ _ _))⟩
theorem Fixed32_good (w : World) (rb : Nat) (l : List UInt8) (k : Nat) (h : RdrAt w rb l k 0) (hk : k + 4 ≤ l.length) :
    Calls Tryz.prog 107 #[.pointer (some ⟨rb, 0, none⟩)] w fun e w' => e = .returned (.int .u32 (num ((l.drop k).take 4) : Int)) ∧ RdrAt w' rb l (k + 4) 0 ∧ w.grownBy w' (some rb) := by
 have hmf : ∀ (fn : Fn) (first cap : Array Value) (w : World), (Instr.makeFunc fn first cap).run Tryz.prog w = .ok (.func fn first cap) w := fun _ _ _ _ => rfl
 have hlt := h.lt
 go_enter_defers Tryz.func107, Tryz.ntmps107
 go_wp2_with fail
 refine (take_ok _ rb l k 4 (h.below (box_below w _)) hk).mono ?_
 rintro e w2 ⟨v2, rfl, hs2, hr2, hg2⟩
 have hbx := box_cell hlt hg2
 have hg3 := box_grown hg2
 have hnl := num_le ((l.drop k).take 4) 4 (by simp; omega)
 have HL : Hid (((l.drop k).take 4).length ≤ 8) := by show _ ≤ _; simp; omega
 clear hg2 hk
 obtain ⟨n, hn⟩ : ∃ n, n = num ((l.drop k).take 4) := ⟨_, rfl⟩
 rw [← hn] at hnl
 simp only [show (256 : Nat) ^ 4 = 4294967296 from rfl] at hnl
 go_wp2_with fail
 refine (readFixed_any _ _ _ hs2 HL.out).mono ?_
 rintro e w3 ⟨rfl, rfl⟩
 rw [← hn]
 have HN : Hid (n = num ((l.drop k).take 4)) := hn
 clear hn
 go_wp2
 refine leaves_cons (f := 152) (args := #[.pointer (some ⟨w.heap.size, 0, none⟩)]) (by simp) (by simp [go_sem]) ?_
 refine (shut_idle_Fixed32 _ (some ⟨rb, 0, none⟩) ⟨w.heap.size, 0, none⟩ hbx).mono ?_
 rintro e u' w'' ⟨rfl, rfl, rfl⟩
 simp [Leaves, settle, results, Tryz.results107, go_sem]
 exact ⟨by rw [HN.out], hr2, grown_drew hg3⟩
theorem Fixed64_good (w : World) (rb : Nat) (l : List UInt8) (k : Nat) (h : RdrAt w rb l k 0) (hk : k + 8 ≤ l.length) :
    Calls Tryz.prog 185 #[.pointer (some ⟨rb, 0, none⟩)] w fun e w' => e = .returned (.int .u64 (num ((l.drop k).take 8) : Int)) ∧ RdrAt w' rb l (k + 8) 0 ∧ w.grownBy w' (some rb) := by
 have hmf : ∀ (fn : Fn) (first cap : Array Value) (w : World), (Instr.makeFunc fn first cap).run Tryz.prog w = .ok (.func fn first cap) w := fun _ _ _ _ => rfl
 have hlt := h.lt
 go_enter_defers Tryz.func185, Tryz.ntmps185
 go_wp2_with fail
 refine (take_ok _ rb l k 8 (h.below (box_below w _)) hk).mono ?_
 rintro e w2 ⟨v2, rfl, hs2, hr2, hg2⟩
 have hbx := box_cell hlt hg2
 have hg3 := box_grown hg2
 have hnl := num_le ((l.drop k).take 8) 8 (by simp; omega)
 have HL : Hid (((l.drop k).take 8).length ≤ 8) := by show _ ≤ _; simp; omega
 clear hg2 hk
 obtain ⟨n, hn⟩ : ∃ n, n = num ((l.drop k).take 8) := ⟨_, rfl⟩
 rw [← hn] at hnl
 simp only [show (256 : Nat) ^ 8 = 18446744073709551616 from rfl] at hnl
 go_wp2_with fail
 refine (readFixed_any _ _ _ hs2 HL.out).mono ?_
 rintro e w3 ⟨rfl, rfl⟩
 rw [← hn]
 have HN : Hid (n = num ((l.drop k).take 8)) := hn
 clear hn
 go_wp2
 refine leaves_cons (f := 213) (args := #[.pointer (some ⟨w.heap.size, 0, none⟩)]) (by simp) (by simp [go_sem]) ?_
 refine (shut_idle_Fixed64 _ (some ⟨rb, 0, none⟩) ⟨w.heap.size, 0, none⟩ hbx).mono ?_
 rintro e u' w'' ⟨rfl, rfl, rfl⟩
 simp [Leaves, settle, results, Tryz.results185, go_sem]
 exact ⟨by rw [HN.out], hr2, grown_drew hg3⟩
theorem newReader_any (w : World) (x : Value) (l : List UInt8) (hx : Sl w x l) (hlen : l.length ≤ 140737488355328) :
    Calls Tryz.prog 106 #[x] w fun e w' => ∃ rb, e = .returned (.pointer (some ⟨rb, 0, none⟩)) ∧ RdrAt w' rb l 0 0 ∧ Below w.heap.size w w' ∧ w.heap.size ≤ rb := by
 go_enter Tryz.func106, Tryz.ntmps106
 go_wp2_with fail
 refine (clone_any _ _ l hx hlen).mono ?_
 rintro e w2 ⟨v2, rfl, ho, hb⟩
 obtain ⟨ao, ca, rfl⟩ := own_slice ho
 go_wp2
 go_ret
 have hsz := hb.size
 refine ⟨_, rfl, ⟨.slice ao l.length ca, ?_, ?_, Nat.zero_le _, hlen⟩, hb.alloc hsz _, hsz⟩
 ·exact heap_alloc_new _ _
 ·obtain ⟨a1, a2⟩ := ho.alloc (.cells #[.slice ao l.length ca, .int .i64 0, .int .i64 0] 224)
  refine ⟨a1, ?_⟩
  rcases a2 with a2 | ⟨g, cap, cur, hv, hg, r⟩
  ·exact Or.inl a2
  ·exact Or.inr ⟨g, cap, cur, hv, Nat.zero_le _, r⟩
theorem at_any (w : World) (rb : Nat) (l : List UInt8) (k : Nat) (er : Int) (h : RdrAt w rb l k er) :
    Calls Tryz.prog 186 #[.pointer (some ⟨rb, 0, none⟩)] w fun e w' => e = .returned (.int .i64 (k : Int)) ∧ w' = w := by
 obtain ⟨v, hr, ho, hk, hl⟩ := h
 have h1 : w.cell? ⟨rb, 1, none⟩ = some (.int .i64 (k : Int)) := by simp [World.cell?, hr]
 clear hr ho
 go_enter Tryz.func186, Tryz.ntmps186
 go_wp2
 go_ret
 exact ⟨rfl, rfl⟩
theorem err_any (w : World) (rb : Nat) (l : List UInt8) (k : Nat) (er : Int) (h : RdrAt w rb l k er) :
    Calls Tryz.prog 160 #[.pointer (some ⟨rb, 0, none⟩)] w fun e w' => e = .returned (.tuple #[.int .i64 (if er = 0 then 0 else (k : Int)), .int .i64 er]) ∧ Qt w w' := by
 obtain ⟨v, hr, ho, hk, hl⟩ := h
 have h1 : w.cell? ⟨rb, 1, none⟩ = some (.int .i64 (k : Int)) := by simp [World.cell?, hr]
 have h2 : w.cell? ⟨rb, 2, none⟩ = some (.int .i64 er) := by simp [World.cell?, hr]
 clear hr ho
 by_cases he : er = 0
 ·subst he
  rw [if_pos rfl]
  go_enter Tryz.func160, Tryz.ntmps160
  go_wp2
  go_ret2
  exact ⟨rfl, Qt.refl _⟩
 ·rw [if_neg he]
  have hg : (er == 0) = false := by simpa using he
  clear he
  go_enter Tryz.func160, Tryz.ntmps160
  go_wp2
  go_quiet (fail)
  go_wp2
  go_ret2
  exact ⟨rfl, ⟨_, rfl⟩⟩
def stp (l : List UInt8) (n : Nat) (s : Nat × Int) : Nat × Int := if s.2 = 0 then (if s.1 + n ≤ l.length then (s.1 + n, 0) else (s.1, 2)) else s
def stv (l : List UInt8) (n : Nat) (s : Nat × Int) : Nat := if s.2 = 0 ∧ s.1 + n ≤ l.length then num ((l.drop s.1).take n) else 0
theorem stv_lt (l : List UInt8) (n : Nat) (s : Nat × Int) : stv l n s < 256 ^ n := by
 unfold stv
 split
 ·exact num_le _ n (by simp; omega)
 ·exact Nat.pow_pos (by omega)
theorem fixed32_tot (w : World) (rb : Nat) (l : List UInt8) (s : Nat × Int) (h : RdrAt w rb l s.1 s.2) :
    Calls Tryz.prog 107 #[.pointer (some ⟨rb, 0, none⟩)] w fun e w' => e = .returned (.int .u32 (stv l 4 s : Int)) ∧ RdrAt w' rb l (stp l 4 s).1 (stp l 4 s).2 ∧ w.grownBy w' (some rb) := by
 by_cases h0 : s.2 = 0
 ·rw [h0] at h
  by_cases h1 : s.1 + 4 ≤ l.length
  ·have E1 : stv l 4 s = num ((l.drop s.1).take 4) := by rw [stv, if_pos ⟨h0, h1⟩]
   have E2 : stp l 4 s = (s.1 + 4, 0) := by rw [stp, if_pos h0, if_pos h1]
   rw [E1, E2]
   exact Fixed32_good w rb l s.1 h h1
  ·have E1 : stv l 4 s = 0 := by rw [stv, if_neg (by omega)]
   have E2 : stp l 4 s = (s.1, 2) := by rw [stp, if_pos h0, if_neg h1]
   rw [E1, E2]
   exact Fixed32_bad w rb l s.1 0 2 h fun u hu => take_short u rb l s.1 4 hu (by omega)
 ·have E1 : stv l 4 s = 0 := by rw [stv, if_neg (by omega)]
  have E2 : stp l 4 s = s := by rw [stp, if_neg h0]
  rw [E1, E2]
  exact Fixed32_bad w rb l s.1 s.2 s.2 h fun u hu => (take_no u rb l s.1 s.2 4 hu (by simpa using h0)).mono fun e w' ⟨a, b⟩ => ⟨a, by rw [b]; exact Qt.refl _⟩
theorem fixed64_tot (w : World) (rb : Nat) (l : List UInt8) (s : Nat × Int) (h : RdrAt w rb l s.1 s.2) :
    Calls Tryz.prog 185 #[.pointer (some ⟨rb, 0, none⟩)] w fun e w' => e = .returned (.int .u64 (stv l 8 s : Int)) ∧ RdrAt w' rb l (stp l 8 s).1 (stp l 8 s).2 ∧ w.grownBy w' (some rb) := by
 by_cases h0 : s.2 = 0
 ·rw [h0] at h
  by_cases h1 : s.1 + 8 ≤ l.length
  ·have E1 : stv l 8 s = num ((l.drop s.1).take 8) := by rw [stv, if_pos ⟨h0, h1⟩]
   have E2 : stp l 8 s = (s.1 + 8, 0) := by rw [stp, if_pos h0, if_pos h1]
   rw [E1, E2]
   exact Fixed64_good w rb l s.1 h h1
  ·have E1 : stv l 8 s = 0 := by rw [stv, if_neg (by omega)]
   have E2 : stp l 8 s = (s.1, 2) := by rw [stp, if_pos h0, if_neg h1]
   rw [E1, E2]
   exact Fixed64_bad w rb l s.1 0 2 h fun u hu => take_short u rb l s.1 8 hu (by omega)
 ·have E1 : stv l 8 s = 0 := by rw [stv, if_neg (by omega)]
  have E2 : stp l 8 s = s := by rw [stp, if_neg h0]
  rw [E1, E2]
  exact Fixed64_bad w rb l s.1 s.2 s.2 h fun u hu => (take_no u rb l s.1 s.2 8 hu (by simpa using h0)).mono fun e w' ⟨a, b⟩ => ⟨a, by rw [b]; exact Qt.refl _⟩
def put2 (w : World) (b : Nat) (a0 a1 : Value) : World := (w.setCell ⟨b, 0, none⟩ a0).setCell ⟨b, 1, none⟩ a1
theorem put2_heap {w : World} {b : Nat} {z0 z1 : Value} {T : TypeId} (h : w.heap[b]? = some (.cells #[z0, z1] T (0, 0))) (a0 a1 : Value) : (put2 w b a0 a1).heap[b]? = some (.cells #[a0, a1] T (0, 0)) := by
 unfold put2
 rw [heap_setCell_same _ _ _ _ _ _ (heap_setCell_same _ _ _ _ _ _ h)]
 simp
theorem put2_other (w : World) (b k : Nat) (a0 a1 : Value) (h : k ≠ b) : (put2 w b a0 a1).heap[k]? = w.heap[k]? := by
 unfold put2
 rw [heap_setCell_other _ _ k _ h, heap_setCell_other _ _ k _ h]
theorem put2_below {B : Nat} {u w : World} (h : Below B u w) {b : Nat} (hb : B ≤ b) (a0 a1 : Value) : Below B u (put2 w b a0 a1) := (h.setCell hb a0).setCell hb a1
theorem two_cells {w : World} {b : Nat} {a0 a1 : Value} {T : TypeId} (h : w.heap[b]? = some (.cells #[a0, a1] T (0, 0))) : w.cell? ⟨b, 0, none⟩ = some a0 ∧ w.cell? ⟨b, 1, none⟩ = some a1 ∧ w.frozen? ⟨b, 0, none⟩ = false ∧ w.frozen? ⟨b, 1, none⟩ = false := by
 simp [World.cell?, World.frozen?, h]
theorem sl_take {w : World} {l : List UInt8} {n : Nat} (k : Nat) (hk : k ≤ l.length) {ao : Option Addr} {ca : Nat} (h : Sl w (.slice ao n ca) l) (hn : l.length = n) : Sl w (.slice ao k ca) (l.take k) := by
 obtain ⟨ao', ca', e, g2, g3, g4, g5⟩ := h
 simp only [Value.slice.injEq] at e
 obtain ⟨rfl, _, rfl⟩ := e
 have hl : (l.take k).length = k := by simp; omega
 refine ⟨ao, ca, by rw [hl], fun e => ?_, by omega, g4, fun i hi => ?_⟩
 ·obtain ⟨e1, e2⟩ := g2 e
  exact ⟨by rw [e1]; simp, e2⟩
 ·obtain ⟨b, off, e1, hc⟩ := g5 i (by omega)
  exact ⟨b, off, e1, by rw [hc]; simp⟩
theorem newR_any (w : World) (v : Value) (l : List UInt8) (k : Nat) (hk : k ≤ 100) (hv : Sl w v l) :
    Calls Tryz.prog 137 #[v, .int .i64 (k : Int)] w fun e w' => ∃ rb, e = .returned (.agg #[.pointer (some ⟨rb, 0, none⟩), v]) ∧ RdrAt w' rb (l.take k) 0 0 ∧ Below w.heap.size w w' ∧ w.heap.size ≤ rb := by
 have HV := hide hv
 obtain ⟨n, hn⟩ : ∃ n, Hid (l.length = n) := ⟨_, rfl⟩
 obtain ⟨ao, ca, rfl⟩ := hv.form hn.out
 have hcap : n ≤ ca ∧ ca ≤ 9223372036854775807 := by
  obtain ⟨_, _, e, _, g3, g4, _⟩ := hv
  simp only [Value.slice.injEq] at e
  obtain ⟨_, _, rfl⟩ := e
  rw [hn.out] at g3
  unfold maxLen at g4
  omega
 obtain ⟨hc1, hc2⟩ := hcap
 have hv1 := hide (Below.sl (box_below w (.cells #[.pointer none, .slice none 0 0] 211)) HV.out)
 obtain ⟨M, hM⟩ : ∃ M, Hid (l.take k = M) := ⟨_, rfl⟩
 rw [hM.out]
 have hML : Hid (M.length ≤ 140737488355328) := by show _ ≤ _; rw [← hM.out]; simp; omega
 clear hv
 by_cases hnk : n < k
 ·have s1 : Hid (Sl (w.alloc (.cells #[.pointer none, .slice none 0 0] 211)) (.slice ao n ca) M) := by
    have e : l = M := by rw [← hM.out, List.take_of_length_le (by rw [hn.out]; omega)]
    show Sl _ _ _
    rw [← e]; exact hv1.out
  have hmn : (min (k : Int) (n : Int)).toNat = n := by omega
  have hmi : min (k : Int) (n : Int) = (n : Int) := by omega
  go_enter Tryz.func137, Tryz.ntmps137
  go_wp2_with fail
  try rw [hmn]
  try rw [hmi]
  refine (newReader_any _ _ M s1.out hML.out).mono ?_
  rintro e w1 ⟨rb, rfl, hr, hb, hrb⟩
  have hB : Hid (Below w.heap.size w w1) := keepF (box_below _ _) hb
  have hh := hb.block w.heap.size (by simp)
  rw [heap_alloc_new] at hh
  have hrb' : Hid (w.heap.size + 1 ≤ rb) := by simpa [Hid] using hrb
  obtain ⟨c0, c1, f0, f1⟩ := two_cells hh
  have hR : Hid (RdrAt (put2 w1 w.heap.size (.pointer (some ⟨rb, 0, none⟩)) (.slice ao n ca)) rb M 0 0) := by
   obtain ⟨vr, g1, g2, g3, g4⟩ := hr
   refine ⟨vr, ?_, ?_, g3, g4⟩
   ·rw [put2_other _ _ _ _ _ (by have := hrb'.out; omega)]; exact g1
   ·exact ownsRow_setCell_other (ownsRow_setCell_other g2 (fun e => by
      obtain ⟨_, p⟩ := id g2
      rcases p with ⟨rfl, _⟩ | ⟨g, cap, cur, rfl, _, hg, _⟩
      ·simp [Value.ownBlock] at e
      ·simp [Value.ownBlock] at e
       subst e
       rw [hh] at hg
       simp at hg) _) (fun e => by
      obtain ⟨_, p⟩ := id g2
      rcases p with ⟨rfl, _⟩ | ⟨g, cap, cur, rfl, _, hg, _⟩
      ·simp [Value.ownBlock] at e
      ·simp [Value.ownBlock] at e
       subst e
       rw [hh] at hg
       simp at hg) _
  have hB2 := hide (put2_below hB.out (Nat.le_refl _) (.pointer (some ⟨rb, 0, none⟩)) (.slice ao n ca))
  have hP := hide (two_cells (put2_heap hh (.pointer (some ⟨rb, 0, none⟩)) (.slice ao n ca)))
  clear hh hb hr hB hrb
  go_wp2_with fail
  show bodyPost _ _ _ _ _ (put2 w1 w.heap.size (.pointer (some ⟨rb, 0, none⟩)) (.slice ao n ca))
  obtain ⟨w5, hw5⟩ : ∃ w5, Hid (put2 w1 w.heap.size (.pointer (some ⟨rb, 0, none⟩)) (.slice ao n ca) = w5) := ⟨_, rfl⟩
  rw [hw5.out] at hP hB2 hR ⊢
  obtain ⟨k0, k1, _, _⟩ := hP.out
  refine bodyPost_ret (by simp [results, Tryz.results137, go_sem, k0, k1]; rfl) rfl ?_
  exact ⟨rb, rfl, hR.out, hB2.out, by have := hrb'.out; omega⟩
 ·have s1 : Hid (Sl (w.alloc (.cells #[.pointer none, .slice none 0 0] 211)) (.slice ao k ca) M) := by
    show Sl _ _ _
    rw [← hM.out]
    exact sl_take k (by rw [hn.out]; omega) hv1.out hn.out
  have hkn : k ≤ n := by omega
  have hkc : k ≤ ca := by omega
  have hmn : (min (k : Int) (n : Int)).toNat = k := by omega
  have hmi : min (k : Int) (n : Int) = (k : Int) := by omega
  go_enter Tryz.func137, Tryz.ntmps137
  go_wp2_with fail
  try rw [hmn]
  try rw [hmi]
  refine (newReader_any _ _ M s1.out hML.out).mono ?_
  rintro e w1 ⟨rb, rfl, hr, hb, hrb⟩
  have hB : Hid (Below w.heap.size w w1) := keepF (box_below _ _) hb
  have hh := hb.block w.heap.size (by simp)
  rw [heap_alloc_new] at hh
  have hrb' : Hid (w.heap.size + 1 ≤ rb) := by simpa [Hid] using hrb
  obtain ⟨c0, c1, f0, f1⟩ := two_cells hh
  have hR : Hid (RdrAt (put2 w1 w.heap.size (.pointer (some ⟨rb, 0, none⟩)) (.slice ao n ca)) rb M 0 0) := by
   obtain ⟨vr, g1, g2, g3, g4⟩ := hr
   refine ⟨vr, ?_, ?_, g3, g4⟩
   ·rw [put2_other _ _ _ _ _ (by have := hrb'.out; omega)]; exact g1
   ·exact ownsRow_setCell_other (ownsRow_setCell_other g2 (fun e => by
      obtain ⟨_, p⟩ := id g2
      rcases p with ⟨rfl, _⟩ | ⟨g, cap, cur, rfl, _, hg, _⟩
      ·simp [Value.ownBlock] at e
      ·simp [Value.ownBlock] at e
       subst e
       rw [hh] at hg
       simp at hg) _) (fun e => by
      obtain ⟨_, p⟩ := id g2
      rcases p with ⟨rfl, _⟩ | ⟨g, cap, cur, rfl, _, hg, _⟩
      ·simp [Value.ownBlock] at e
      ·simp [Value.ownBlock] at e
       subst e
       rw [hh] at hg
       simp at hg) _
  have hB2 := hide (put2_below hB.out (Nat.le_refl _) (.pointer (some ⟨rb, 0, none⟩)) (.slice ao n ca))
  have hP := hide (two_cells (put2_heap hh (.pointer (some ⟨rb, 0, none⟩)) (.slice ao n ca)))
  clear hh hb hr hB hrb
  go_wp2_with fail
  show bodyPost _ _ _ _ _ (put2 w1 w.heap.size (.pointer (some ⟨rb, 0, none⟩)) (.slice ao n ca))
  obtain ⟨w5, hw5⟩ : ∃ w5, Hid (put2 w1 w.heap.size (.pointer (some ⟨rb, 0, none⟩)) (.slice ao n ca) = w5) := ⟨_, rfl⟩
  rw [hw5.out] at hP hB2 hR ⊢
  obtain ⟨k0, k1, _, _⟩ := hP.out
  refine bodyPost_ret (by simp [results, Tryz.results137, go_sem, k0, k1]; rfl) rfl ?_
  exact ⟨rb, rfl, hR.out, hB2.out, by have := hrb'.out; omega⟩
end Go.Proofs.YtnimildpcnmjeaaGreatDoor
namespace Go.Proofs.YtnimildpcnmjeaaGreatDoor.Ct
open Go.RowKit
def scell (s : Sg) : List Value := [.int .i64 s.nm, .int .i64 s.ba, .int .u32 (s.se : Int), .int .i64 s.en, .int .i64 s.sz]
def scells (l : List Sg) : List Value := l.flatMap scell
def SAt (w : World) (b off : Nat) (s : Sg) : Prop := w.cell? ⟨b, off, none⟩ = some (.int .i64 s.nm) ∧ w.cell? ⟨b, off + 1, none⟩ = some (.int .i64 s.ba) ∧ w.cell? ⟨b, off + 2, none⟩ = some (.int .u32 (s.se : Int)) ∧ w.cell? ⟨b, off + 3, none⟩ = some (.int .i64 s.en) ∧ w.cell? ⟨b, off + 4, none⟩ = some (.int .i64 s.sz)
def Sgs (w : World) (v : Value) (l : List Sg) : Prop :=
 AIn l ∧ ∃ ao cap, v = .slice ao l.length cap ∧ (ao = none → l = [] ∧ cap = 0) ∧ l.length ≤ cap ∧ cap ≤ maxLen ∧ ∀ i (_ : i < l.length), ∃ b off, ao = some ⟨b, off, none⟩ ∧ SAt w b (off + i * 5) (sg l i)
theorem SAt.below {w w' : World} {b off : Nat} {s : Sg} (h : SAt w b off s) (hb : Below w.heap.size w w') : SAt w' b off s := by
 obtain ⟨h0, h1, h2, h3, h4⟩ := h
 exact ⟨by rw [hb.cell (lt_of_cell h0)]; exact h0, by rw [hb.cell (lt_of_cell h1)]; exact h1, by rw [hb.cell (lt_of_cell h2)]; exact h2, by rw [hb.cell (lt_of_cell h3)]; exact h3, by rw [hb.cell (lt_of_cell h4)]; exact h4⟩
theorem Sgs.below {w w' : World} {v : Value} {l : List Sg} (h : Sgs w v l) (hb : Below w.heap.size w w') : Sgs w' v l := by
 obtain ⟨h0, ao, cap, h1, h2, h3, h4, h5⟩ := h
 exact ⟨h0, ao, cap, h1, h2, h3, h4, fun i hi => by obtain ⟨b, off, e, g⟩ := h5 i hi; exact ⟨b, off, e, g.below hb⟩⟩
theorem Sgs.form {w : World} {v : Value} {l : List Sg} (h : Sgs w v l) : ∃ ao ca, v = .slice ao l.length ca ∧ l.length ≤ ca ∧ ca ≤ 9223372036854775807 := by
 obtain ⟨_, ao, cap, h1, h2, h3, h4, h5⟩ := h
 exact ⟨ao, cap, h1, h3, by unfold maxLen at h4; omega⟩
theorem Sgs.at {w : World} {v : Value} {l : List Sg} (h : Sgs w v l) (hl : 1 ≤ l.length) : ∃ b off ca, v = .slice (some ⟨b, off, none⟩) l.length ca ∧ l.length ≤ ca ∧ ca ≤ 9223372036854775807 ∧ ∀ i, i < l.length → SAt w b (off + i * 5) (sg l i) := by
 obtain ⟨_, ao, cap, h1, h2, h3, h4, h5⟩ := h
 obtain ⟨b, off, rfl, _⟩ := h5 0 (by omega)
 refine ⟨b, off, cap, h1, h3, by unfold maxLen at h4; omega, fun i hi => ?_⟩
 obtain ⟨b', off', e, g⟩ := h5 i hi
 simp only [Option.some.injEq, Addr.mk.injEq, and_true] at e
 obtain ⟨rfl, rfl⟩ := e
 exact g
theorem sealed_any (w : World) (s : Sg) : Calls Tryz.prog 133 #[.agg #[.int .i64 s.nm, .int .i64 s.ba, .int .u32 (s.se : Int), .int .i64 s.en, .int .i64 s.sz]] w fun e w' => (e = .returned (.bool true) ∧ sldF s ∨ e = .returned (.bool false) ∧ ¬ sldF s) ∧ Below w.heap.size w w' := by
 obtain ⟨nm, ba, se, en, sz⟩ := s
 have hB := hide (box_below w (.cells #[.int .i64 nm, .int .i64 ba, .int .u32 (se : Int), .int .i64 en, .int .i64 sz] 51))
 dsimp only
 go_enter Tryz.func133, Tryz.ntmps133
 by_cases h1 : en = 0
 ·subst h1
  by_cases h2 : sz = 0
  ·subst h2
   go_wp2_with fail
   go_ret
   exact ⟨.inr ⟨rfl, by simp [sldF]⟩, hB.out⟩
  ·have h2' : (sz != 0) = true := by simpa using h2
   go_wp2_with fail
   go_ret
   exact ⟨.inl ⟨by simp, .inr h2⟩, hB.out⟩
 ·have h1' : (en != 0) = true := by simpa using h1
  go_wp2_with fail
  go_ret
  exact ⟨.inl ⟨by simp, .inl h1⟩, hB.out⟩
theorem maySealed_any (w : World) (s : Sg) : Calls Tryz.prog 92 #[.agg #[.int .i64 s.nm, .int .i64 s.ba, .int .u32 (s.se : Int), .int .i64 s.en, .int .i64 s.sz]] w fun e w' => (e = .returned (.bool true) ∧ slF s ∨ e = .returned (.bool false) ∧ ¬ slF s) ∧ Below w.heap.size w w' := by
 obtain ⟨nm, ba, se, en, sz⟩ := s
 have hB := hide (box_below w (.cells #[.int .i64 nm, .int .i64 ba, .int .u32 (se : Int), .int .i64 en, .int .i64 sz] 51))
 dsimp only
 go_enter Tryz.func92, Tryz.ntmps92
 by_cases h1 : 1 ≤ nm
 ·by_cases h2 : 1 ≤ ba
  ·by_cases h3 : ba ≤ en
   ·by_cases h4 : 32 ≤ sz
    ·by_cases h5 : sz ≤ 2147483647
     ·go_wp2_with fail
      go_ret
      exact ⟨.inl ⟨rfl, h1, h2, h3, h4, h5⟩, hB.out⟩
     ·go_wp2_with fail
      go_ret
      exact ⟨.inr ⟨rfl, fun c => by have c1 := c.2.2.2.2; simp only at c1; omega⟩, hB.out⟩
    ·go_wp2_with fail
     go_ret
     exact ⟨.inr ⟨rfl, fun c => by have c1 := c.2.2.2.1; simp only at c1; omega⟩, hB.out⟩
   ·go_wp2_with fail
    go_ret
    exact ⟨.inr ⟨rfl, fun c => by have c1 := c.2.2.1; simp only at c1; omega⟩, hB.out⟩
  ·go_wp2_with fail
   go_ret
   exact ⟨.inr ⟨rfl, fun c => by have c1 := c.2.1; simp only at c1; omega⟩, hB.out⟩
 ·go_wp2_with fail
  go_ret
  exact ⟨.inr ⟨rfl, fun c => by have c1 := c.1; simp only at c1; omega⟩, hB.out⟩
theorem follows_any (w : World) (s t : Sg) (hs : -9223372036854775808 ≤ s.nm) : Calls Tryz.prog 93 #[.agg #[.int .i64 s.nm, .int .i64 s.ba, .int .u32 (s.se : Int), .int .i64 s.en, .int .i64 s.sz], .agg #[.int .i64 t.nm, .int .i64 t.ba, .int .u32 (t.se : Int), .int .i64 t.en, .int .i64 t.sz]] w fun e w' => (e = .returned (.bool true) ∧ foF s t ∨ e = .returned (.bool false) ∧ ¬ foF s t) ∧ Below w.heap.size w w' := by
 obtain ⟨nm, ba, se, en, sz⟩ := s
 obtain ⟨nm', ba', se', en', sz'⟩ := t
 have hB := hide ((box_below w (.cells #[.int .i64 nm, .int .i64 ba, .int .u32 (se : Int), .int .i64 en, .int .i64 sz] 51)).alloc (by simp) (.cells #[.int .i64 nm', .int .i64 ba', .int .u32 (se' : Int), .int .i64 en', .int .i64 sz'] 51))
 dsimp only at hs ⊢
 go_enter Tryz.func93, Tryz.ntmps93
 by_cases h1 : nm < 9223372036854775807
 ·have hw : IntKind.i64.wrap (nm + 1) = nm + 1 := by rw [IntKind.wrap_i64]; omega
  by_cases h2 : nm' = nm + 1
  ·subst h2
   by_cases h3 : ba' = en
   ·subst h3
    go_wp2_with fail
    go_ret
    exact ⟨.inl ⟨by simp, h1, rfl, rfl⟩, hB.out⟩
   ·have h3' : (ba' == en) = false := by simpa using h3
    go_wp2_with fail
    go_ret
    exact ⟨.inr ⟨by simp, fun c => by have c1 := c.2.2; simp only at c1; omega⟩, hB.out⟩
  ·have h2' : (nm' == nm + 1) = false := by simpa using h2
   go_wp2_with fail
   go_ret
   exact ⟨.inr ⟨by simp, fun c => by have c1 := c.2.1; simp only at c1; omega⟩, hB.out⟩
 ·go_wp2_with fail
  go_ret
  exact ⟨.inr ⟨rfl, fun c => by have c1 := c.1; simp only at c1; omega⟩, hB.out⟩
theorem mayOpen_any (w : World) (s : Sg) : Calls Tryz.prog 94 #[.agg #[.int .i64 s.nm, .int .i64 s.ba, .int .u32 (s.se : Int), .int .i64 s.en, .int .i64 s.sz]] w fun e w' => (e = .returned (.bool true) ∧ opF s ∨ e = .returned (.bool false) ∧ ¬ opF s) ∧ Below w.heap.size w w' := by
 have CALL := hide (fun w => sealed_any w s)
 obtain ⟨nm, ba, se, en, sz⟩ := s
 have hB := hide (box_below w (.cells #[.int .i64 nm, .int .i64 ba, .int .u32 (se : Int), .int .i64 en, .int .i64 sz] 51))
 dsimp only at CALL ⊢
 go_enter Tryz.func94, Tryz.ntmps94
 by_cases h1 : 1 ≤ nm
 ·by_cases h2 : 1 ≤ ba
  ·go_wp2_with fail
   refine (CALL.out _).mono ?_
   rintro e w1 ⟨⟨rfl, h⟩ | ⟨rfl, h⟩, b1⟩
   ·replace b1 := hide (keepF hB.out b1)
    go_wp2_with fail
    go_ret
    exact ⟨.inr ⟨rfl, fun c => c.2.2 h⟩, b1.out⟩
   ·replace b1 := hide (keepF hB.out b1)
    go_wp2_with fail
    go_ret
    exact ⟨.inl ⟨rfl, h1, h2, h⟩, b1.out⟩
  ·go_wp2_with fail
   go_ret
   exact ⟨.inr ⟨rfl, fun c => by have c1 := c.2.1; simp only at c1; omega⟩, hB.out⟩
 ·go_wp2_with fail
  go_ret
  exact ⟨.inr ⟨rfl, fun c => by have c1 := c.1; simp only at c1; omega⟩, hB.out⟩
theorem mayBegin_any (w : World) (f : Int) (s : Sg) : Calls Tryz.prog 95 #[.int .i64 f, .agg #[.int .i64 s.nm, .int .i64 s.ba, .int .u32 (s.se : Int), .int .i64 s.en, .int .i64 s.sz]] w fun e w' => (e = .returned (.bool true) ∧ beF f s ∨ e = .returned (.bool false) ∧ ¬ beF f s) ∧ Below w.heap.size w w' := by
 have CALL := hide (fun w => sealed_any w s)
 obtain ⟨nm, ba, se, en, sz⟩ := s
 have hB := hide (box_below w (.cells #[.int .i64 nm, .int .i64 ba, .int .u32 (se : Int), .int .i64 en, .int .i64 sz] 51))
 have hcs : ∀ w1, Below (w.alloc (.cells #[.int .i64 nm, .int .i64 ba, .int .u32 (se : Int), .int .i64 en, .int .i64 sz] 51)).heap.size (w.alloc (.cells #[.int .i64 nm, .int .i64 ba, .int .u32 (se : Int), .int .i64 en, .int .i64 sz] 51)) w1 → w1.cell? ⟨w.heap.size, 3, none⟩ = some (.int .i64 en) := by
  intro w1 b1
  have : w1.heap[w.heap.size]? = some (.cells #[.int .i64 nm, .int .i64 ba, .int .u32 (se : Int), .int .i64 en, .int .i64 sz] 51 (0, 0)) := by rw [b1.block w.heap.size (by simp), heap_alloc_new]
  simp [World.cell?, this]
 replace hcs := hide hcs
 dsimp only at CALL ⊢
 go_enter Tryz.func95, Tryz.ntmps95
 by_cases h1 : ba ≤ f
 ·go_wp2_with fail
  refine (CALL.out _).mono ?_
  rintro e w1 ⟨⟨rfl, h⟩ | ⟨rfl, h⟩, b1⟩
  ·have c3 := hcs.out w1 b1
   replace b1 := hide (keepF hB.out b1)
   by_cases h2 : f ≤ en
   ·go_wp2_with fail
    go_ret
    exact ⟨.inl ⟨by first | rfl | simp [h2], h1, fun _ => h2⟩, b1.out⟩
   ·go_wp2_with fail
    go_ret
    exact ⟨.inr ⟨by first | rfl | (simp; omega), fun c => by have c1 := (c.2 h); simp only at c1; omega⟩, b1.out⟩
  ·replace b1 := hide (keepF hB.out b1)
   go_wp2_with fail
   go_ret
   exact ⟨.inl ⟨rfl, h1, fun c => absurd c h⟩, b1.out⟩
 ·go_wp2_with fail
  go_ret
  exact ⟨.inr ⟨rfl, fun c => by have c1 := c.1; simp only at c1; omega⟩, hB.out⟩
end Go.Proofs.YtnimildpcnmjeaaGreatDoor.Ct
namespace Go.Proofs.YtnimildpcnmjeaaGreatDoor.Nm
open Go.RowKit
set_option maxRecDepth 100000
def bs (l : List UInt8) : ByteArray := ⟨l.toArray⟩
theorem bs_list (l : List UInt8) : (bs l).data.toList = l := by simp [bs]
theorem bs_size (l : List UInt8) : (bs l).size = l.length := by simp [bs, ByteArray.size]
theorem ext_take (s : ByteArray) (n : Nat) : (s.extract 0 n).data.toList = s.data.toList.take n := by simp [List.extract_eq_take_drop]
set_option maxRecDepth 100000
def Tab16 (w : World) : Prop := w.cell? ⟨3, 15, none⟩ = some (.int .u8 4)
theorem Tab16.below {w w' : World} (h : Tab16 w) (hb : Below w.heap.size w w') : Tab16 w' := by
 show _ = _
 rw [hb.cell (p := ⟨_, 15, none⟩) (lt_of_cell h)]; exact h
theorem tz16 (w : World) (hT : Tab16 w) : Calls Tryz.prog 249 #[.int .u64 16] w fun e w' => e = .returned (.int .i64 4) ∧ w' = w := by
 have hc : w.cell? ⟨3, 15, none⟩ = some (.int .u8 4) := hT
 have key : IntKind.u64.wrap (bits BinOp.and IntKind.u64 (16 : Int) (IntKind.u64.wrap (-(16 : Int))) * 285870213051353865) / 288230376151711744 = (15 : Int) := by decide +kernel
 go_enter Tryz.func249, Tryz.ntmps249
 go_wp2_with (first | (go_in) | (simp only [key]))
 go_ret
 exact ⟨rfl, rfl⟩
structure Dgk (q : World) (b : Nat) (l : List UInt8) : Prop where
 ex : ∃ cs, q.heap[b]? = some (.cells cs 324 (0, 0)) ∧ cs.size = 65 ∧ (∀ j, j < 65 → ∃ z : Int, cs[j]? = some (.int .u8 z)) ∧ ∀ j (h : j < l.length), cs[65 - l.length + j]? = some (.int .u8 (l[j].toNat : Int))
 len : l.length ≤ 65
theorem Dgk.cell {q : World} {b : Nat} {l : List UInt8} (h : Dgk q b l) (j : Nat) (hj : j < 65) : ∃ z : Int, q.cell? ⟨b, j, none⟩ = some (.int .u8 z) := by
 obtain ⟨cs, h1, h2, h3, h4⟩ := h.ex
 obtain ⟨z, hz⟩ := h3 j hj
 exact ⟨z, by simp [World.cell?, h1, hz]⟩
theorem Dgk.frozen {q : World} {b : Nat} {l : List UInt8} (h : Dgk q b l) (j : Nat) : q.frozen? ⟨b, j, none⟩ = false := by
 obtain ⟨cs, h1, h2, h3, h4⟩ := h.ex
 simp [World.frozen?, h1]
theorem Dgk.put {q : World} {b : Nat} {l : List UInt8} (h : Dgk q b l) (c : UInt8) (hl : l.length < 65) : Dgk (q.setCell ⟨b, 64 - l.length, none⟩ (.int .u8 (c.toNat : Int))) b (c :: l) := by
 obtain ⟨cs, h1, h2, h3, h4⟩ := h.ex
 refine ⟨⟨_, heap_setCell_same q b _ cs _ _ h1, ?_, ?_, ?_⟩, by simp; omega⟩
 ·simp [h2]
 ·intro j hj
  by_cases e : j = 64 - l.length
  ·subst e; exact ⟨_, Array.getElem?_setIfInBounds_self_of_lt (by omega)⟩
  ·obtain ⟨z, hz⟩ := h3 j hj
   exact ⟨z, by rw [Array.getElem?_setIfInBounds_ne (by omega)]; exact hz⟩
 ·intro j hj
  rcases j with _ | j
  ·rw [show 65 - (c :: l).length + 0 = 64 - l.length by simp, Array.getElem?_setIfInBounds_self_of_lt (by omega)]
   rfl
  ·rw [show 65 - (c :: l).length + (j + 1) = 65 - l.length + j by simp; omega, Array.getElem?_setIfInBounds_ne (by omega)]
   exact h4 j (by simpa using hj)
theorem Dgk.sl {q : World} {b : Nat} {l : List UInt8} (h : Dgk q b l) (c : Nat) (hc : l.length ≤ c) (hm : c ≤ maxLen) : Sl q (.slice (some ⟨b, 65 - l.length, none⟩) l.length c) l := by
 obtain ⟨cs, h1, h2, h3, h4⟩ := h.ex
 refine ⟨_, _, rfl, fun e => by simp at e, hc, hm, fun i hi => ⟨_, _, rfl, ?_⟩⟩
 simp only [World.cell?, h1]
 exact h4 i hi
theorem tabHd : ∀ d : Fin 16, (⟨#[48, 49, 50, 51, 52, 53, 54, 55, 56, 57, 97, 98, 99, 100, 101, 102, 103, 104, 105, 106, 107, 108, 109, 110, 111, 112, 113, 114, 115, 116, 117, 118, 119, 120, 121, 122]⟩ : ByteArray).data.toList[d.val]? = some (hd d.val) := by decide +kernel
theorem tabHd' (d : Nat) (h : d < 16) (h' : d < (⟨#[48, 49, 50, 51, 52, 53, 54, 55, 56, 57, 97, 98, 99, 100, 101, 102, 103, 104, 105, 106, 107, 108, 109, 110, 111, 112, 113, 114, 115, 116, 117, 118, 119, 120, 121, 122]⟩ : ByteArray).size) : (⟨#[48, 49, 50, 51, 52, 53, 54, 55, 56, 57, 97, 98, 99, 100, 101, 102, 103, 104, 105, 106, 107, 108, 109, 110, 111, 112, 113, 114, 115, 116, 117, 118, 119, 120, 121, 122]⟩ : ByteArray)[d] = hd d := by
 have := tabHd ⟨d, h⟩
 rw [List.getElem?_eq_getElem (by simp; omega)] at this
 exact Option.some.inj this
theorem conv_bs (w : World) (v : Value) (t : List UInt8) (h : Sl w v t) (h0 : 0 < t.length) : (convert 54 9 v).run Tryz.prog w = .ok (.string (bs t)) w := by
 obtain ⟨ao, c, rfl, h1, h2, h3, h4⟩ := h
 obtain ⟨b, off, rfl, _⟩ := h4 0 h0
 have hb : Lib.Bytes w b off (bs t) := fun i hi => by
  obtain ⟨b', off', e', hc⟩ := h4 i (by simpa [bs_size] using hi)
  simp only [Option.some.injEq, Addr.mk.injEq] at e'
  obtain ⟨rfl, rfl, _⟩ := e'
  rw [hc]
  rfl
 have := Lib.run_convert_window w 54 5 9 Tryz.underlying54 Tryz.underlying5 Tryz.underlying9 b off (bs t) hb 0 t.length c (by rw [bs_size]; omega)
 rw [Nat.add_zero] at this
 rw [this]
 congr 2
 apply ByteArray.ext
 simp [bs]
theorem pow_step {m j : Nat} (h1 : 16 ≤ m) (h2 : m < 16 ^ (16 - j)) (hj : j ≤ 15) : j ≤ 14 ∧ m / 16 < 16 ^ (16 - (j + 1)) := by
 have h3 : j ≤ 14 := by
  by_cases e : j = 15
  ·subst e; simp at h2; omega
  ·omega
 refine ⟨h3, ?_⟩
 rw [show 16 - j = (16 - (j + 1)) + 1 by omega, Nat.pow_succ] at h2
 exact Nat.div_lt_of_lt_mul (by rw [Nat.mul_comm]; exact h2)
theorem fmt16_any (w : World) (n : Nat) (hn : n < 18446744073709551616) (hT : Tab16 w) : Calls Tryz.prog 234 #[.slice none 0 0, .int .u64 (n : Int), .int .i64 16, .bool false, .bool false] w fun e w' => e = .returned (.tuple #[.slice none 0 0, .string (bs (digs n))]) ∧ Below w.heap.size w w' := by
 have hp : bits .and .i64 (16 : Int) (15 : Int) = 0 := by decide +kernel
 have ht := hide (fun q (hq : Tab16 q) => tz16 q hq)
 replace hT := hide hT
 replace hn := hide hn
 go_enter Tryz.func234, Tryz.ntmps234
 go_wp2_with (first | (go_at_call 249; refine (ht.out _ (hT.out.below (box_below _ _))).mono ?_; rintro e w' ⟨rfl, rfl⟩) | go_in)
 have D0 : Hid (Dgk (w.alloc (.cells (Array.replicate 65 (.int .u8 0)) 324)) w.heap.size []) := ⟨⟨_, heap_alloc_new _ _, by simp, fun j hj => ⟨0, by simp [hj]⟩, fun j h => by simp at h⟩, by simp⟩
 have B0 : Hid (Below w.heap.size w (w.alloc (.cells (Array.replicate 65 (.int .u8 0)) 324))) := box_below _ _
 go_loopw [13, 1] (fun i u wr => ∃ (k m : Nat) (l : List UInt8), i = .int .i64 ((k : Int) + 1) ∧ u = .int .u64 m ∧ k + l.length = 64 ∧ l.length ≤ 15 ∧ Hid (m < 16 ^ (16 - l.length)) ∧ Hid (digs n = digs m ++ l) ∧ Hid (Dgk wr w.heap.size l ∧ Below w.heap.size w wr)) (fun _ u _ => (intOf u).toNat)
 case atStart => exact ⟨64, n, [], by go_num, rfl, rfl, by simp, by have := hn.out; show _ < _; simpa using this, by show _ = _; simp, D0.out, B0.out⟩
 case round =>
  clear D0 B0 hT ht hp
  obtain ⟨k, m, l, rfl, rfl, hk, hl, hm, hdd, hD⟩ := hrel
  have k0 : (0 : Int) ≤ (k : Int) := by omega
  have k1 : (k : Int) < 65 := by omega
  obtain ⟨z, hz⟩ := hD.out.1.cell k (by omega)
  have hf := hD.out.1.frozen k
  have hm2 : m < 18446744073709551616 := by
   have := hm.out
   have := Nat.pow_le_pow_right (n := 16) (by omega) (show 16 - l.length ≤ 16 by omega)
   omega
  by_cases hbig : m < 16
  ·have i1 : ¬ ((m : Int) ≥ 16) := by omega
   have m0 : (0 : Int) ≤ (m : Int) := by omega
   have m1 : (m : Int) < 36 := by omega
   clear hm2
   go_upto_region 30 with fail
   have hq := hD.out.1.put ((⟨#[48, 49, 50, 51, 52, 53, 54, 55, 56, 57, 97, 98, 99, 100, 101, 102, 103, 104, 105, 106, 107, 108, 109, 110, 111, 112, 113, 114, 115, 116, 117, 118, 119, 120, 121, 122]⟩ : ByteArray)[m]'(by simp [ByteArray.size]; omega)) (by omega)
   have hb := hD.out.2.setCell (p := ⟨w.heap.size, k, none⟩) (Nat.le_refl _) (.int .u8 (((⟨#[48, 49, 50, 51, 52, 53, 54, 55, 56, 57, 97, 98, 99, 100, 101, 102, 103, 104, 105, 106, 107, 108, 109, 110, 111, 112, 113, 114, 115, 116, 117, 118, 119, 120, 121, 122]⟩ : ByteArray)[m]'(by simp [ByteArray.size]; omega)).toNat : Int))
   rw [show 64 - l.length = k by omega] at hq
   revert hq hb
   generalize wr.setCell _ _ = q
   intro hq hb
   rw [tabHd' m (by omega)] at hq
   have kc := conv_bs q _ _ (hq.sl (65 - k) (by simp; omega) (by unfold maxLen; omega)) (by simp)
   rw [show (hd m :: l).length = 65 - k by simp; omega, show 65 - (65 - k) = k by omega, show hd m :: l = digs n by rw [hdd.out, digs_small hbig]; rfl] at kc
   replace hq := hide hq
   replace hb := hide hb
   clear hz hf hD hbig
   have k2 : (k : Int) ≤ 65 := by omega
   have k3 : ¬ (65 = k) := by omega
   go_wp2_with fail
   go_ret2
   exact ⟨rfl, hb.out⟩
  ·have i1 : (m : Int) ≥ 16 := by omega
   have ha : bits .and .u64 (m : Int) (15 : Int) = ((m % 16 : Nat) : Int) := by
    have := bits_and_u64_nat m 15 hm2 (by omega)
    rw [show ((15 : Nat) : Int) = 15 from rfl] at this
    rw [this, show (15 : Nat) = 2 ^ 4 - 1 from rfl, Nat.and_two_pow_sub_one_eq_mod]
   obtain ⟨d, hdm⟩ : ∃ d, Hid (m % 16 = d) := ⟨_, rfl⟩
   rw [hdm.out] at ha
   have d1 : (d : Int) < 16 := by have := hdm.out; omega
   have d0 : (0 : Int) ≤ (d : Int) := by omega
   have m0 : (0 : Int) ≤ (m : Int) := by omega
   have hps := hide (pow_step (m := m) (j := l.length) (by omega) hm.out hl)
   have hdg := hide (digs_more hbig)
   clear hm2 hbig
   go_wp2_with fail
   go_roundw
   case rel =>
    have hp := hps.out
    have hq := hD.out.1.put ((⟨#[48, 49, 50, 51, 52, 53, 54, 55, 56, 57, 97, 98, 99, 100, 101, 102, 103, 104, 105, 106, 107, 108, 109, 110, 111, 112, 113, 114, 115, 116, 117, 118, 119, 120, 121, 122]⟩ : ByteArray)[d]'(by simp [ByteArray.size]; omega)) (by omega)
    rw [show 64 - l.length = k by omega] at hq
    refine ⟨k - 1, m / 16, _, by rw [show ((k - 1 : Nat) : Int) + 1 = (k : Int) by omega], by go_num, ?_, ?_, ?_, ?_, hq, hD.out.2.setCell (p := ⟨w.heap.size, k, none⟩) (Nat.le_refl _) _⟩
    ·simp; omega
    ·simp; omega
    ·show _ < _; simpa using hp.2
    ·show _ = _
     rw [hdd.out, hdg.out, tabHd' d (by omega), hdm.out]; simp
   case measure => simp [intOf]; omega
theorem format_any (w : World) (n : Nat) (hn : n < 9223372036854775808) (hT : Tab16 w) : Calls Tryz.prog 178 #[.int .i64 (n : Int), .int .i64 16] w fun e w' => e = .returned (.string (bs (digs n))) ∧ Below w.heap.size w w' := by
 have hf := hide (fmt16_any w n (by omega) hT)
 have n0 : ¬ (n : Int) < 0 := by omega
 have n1 : (n : Int) < 9223372036854775808 := by omega
 clear hn
 go_enter Tryz.func178, Tryz.ntmps178
 go_wp2_with (first | (go_at_call 234; refine hf.out.mono ?_; rintro e w' ⟨rfl, hb⟩) | go_in)
 go_ret
 exact ⟨rfl, hb⟩
theorem mul1_any (w : World) (n : Nat) (hn : n ≤ 15) : Calls Tryz.prog 206 #[.int .u64 1, .int .u64 (n : Int)] w fun e w' => e = .returned (.tuple #[.int .u64 0, .int .u64 (n : Int)]) ∧ w' = w := by
 have hA : bits .and .u64 (1 : Int) 4294967295 = 1 := by decide +kernel
 have hB : bits .and .u64 (n : Int) 4294967295 = (n : Int) := by
  have := bits_and_u64_nat n 4294967295 (by omega) (by omega)
  rw [show ((4294967295 : Nat) : Int) = 4294967295 from rfl] at this
  rw [this, show (4294967295 : Nat) = 2 ^ 32 - 1 from rfl, Nat.and_two_pow_sub_one_eq_mod, Nat.mod_eq_of_lt (by omega)]
 have hC : (n : Int) / 4294967296 = 0 := by omega
 have hD : bits .and .u64 (0 : Int) 4294967295 = 0 := by decide +kernel
 have i0 : (0 : Int) ≤ (n : Int) := by omega
 have i1 : (n : Int) ≤ 15 := by omega
 clear hn
 go_enter Tryz.func206, Tryz.ntmps206
 go_wp2
 go_ret2
 exact ⟨rfl, rfl⟩
def hpB (s p : ByteArray) : Bool := decide (p.size ≤ s.size) && ((s.extract 0 p.size).toList == p.toList)
theorem hpB_any (s p : ByteArray) (w : World) : Calls Tryz.prog 207 #[.string s, .string p] w fun e w' => e = .returned (.bool (hpB s p)) ∧ w' = w := by
 go_enter Tryz.func207, Tryz.ntmps207
 go_wp2
 all_goals
  go_ret
  exact ⟨ret_bool (by simp [hpB, *]), rfl⟩
theorem zeros_take (n : Nat) (hn : n ≤ 15) : (⟨#[48, 48, 48, 48, 48, 48, 48, 48, 48, 48, 48, 48, 48, 48, 48, 48, 48, 48, 48, 48, 48, 48, 48, 48, 48, 48, 48, 48, 48, 48, 48, 48, 48, 48, 48, 48, 48, 48, 48, 48, 48, 48, 48, 48, 48, 48, 48, 48, 48, 48, 48, 48, 48, 48, 48, 48, 48, 48, 48, 48, 48, 48, 48, 48]⟩ : ByteArray).extract 0 n = bs (List.replicate n 48) := by
 have e : (⟨#[48, 48, 48, 48, 48, 48, 48, 48, 48, 48, 48, 48, 48, 48, 48, 48, 48, 48, 48, 48, 48, 48, 48, 48, 48, 48, 48, 48, 48, 48, 48, 48, 48, 48, 48, 48, 48, 48, 48, 48, 48, 48, 48, 48, 48, 48, 48, 48, 48, 48, 48, 48, 48, 48, 48, 48, 48, 48, 48, 48, 48, 48, 48, 48]⟩ : ByteArray) = ⟨(List.replicate 64 (48 : UInt8)).toArray⟩ := rfl
 rw [e]
 apply ByteArray.ext
 apply Array.toList_inj.1
 rw [bs_list, ext_take]
 simp only [List.take_replicate]
 congr 1
 omega
theorem repeat_any (w : World) (n : Nat) (hn : n ≤ 15) : Calls Tryz.prog 179 #[.string ⟨#[48]⟩, .int .i64 (n : Int)] w fun e w' => e = .returned (.string (bs (List.replicate n 48))) ∧ w' = w := by
 have : n = 0 ∨ n = 1 ∨ 2 ≤ n := by omega
 rcases this with rfl | rfl | h2
 ·go_enter Tryz.func179, Tryz.ntmps179
  go_wp2
  go_ret
  exact ⟨rfl, rfl⟩
 ·go_enter Tryz.func179, Tryz.ntmps179
  go_wp2
  go_ret
  exact ⟨rfl, rfl⟩
 ·have i2 : (2 : Int) ≤ (n : Int) := by omega
  have i3 : (n : Int) ≤ 15 := by omega
  have i4 : ((n : Int) == 0) = false := by simp; omega
  have i5 : ((n : Int) == 1) = false := by simp; omega
  have e1 : hpB ⟨#[32, 32, 32, 32, 32, 32, 32, 32, 32, 32, 32, 32, 32, 32, 32, 32, 32, 32, 32, 32, 32, 32, 32, 32, 32, 32, 32, 32, 32, 32, 32, 32, 32, 32, 32, 32, 32, 32, 32, 32, 32, 32, 32, 32, 32, 32, 32, 32, 32, 32, 32, 32, 32, 32, 32, 32, 32, 32, 32, 32, 32, 32, 32, 32, 32, 32, 32, 32, 32, 32, 32, 32, 32, 32, 32, 32, 32, 32, 32, 32, 32, 32, 32, 32, 32, 32, 32, 32, 32, 32, 32, 32, 32, 32, 32, 32, 32, 32, 32, 32, 32, 32, 32, 32, 32, 32, 32, 32, 32, 32, 32, 32, 32, 32, 32, 32, 32, 32, 32, 32, 32, 32, 32, 32, 32, 32, 32, 32]⟩ ⟨#[48]⟩ = false := by decide +kernel
  have e2 : hpB ⟨#[45, 45, 45, 45, 45, 45, 45, 45, 45, 45, 45, 45, 45, 45, 45, 45, 45, 45, 45, 45, 45, 45, 45, 45, 45, 45, 45, 45, 45, 45, 45, 45, 45, 45, 45, 45, 45, 45, 45, 45, 45, 45, 45, 45, 45, 45, 45, 45, 45, 45, 45, 45, 45, 45, 45, 45, 45, 45, 45, 45, 45, 45, 45, 45, 45, 45, 45, 45, 45, 45, 45, 45, 45, 45, 45, 45, 45, 45, 45, 45, 45, 45, 45, 45, 45, 45, 45, 45, 45, 45, 45, 45, 45, 45, 45, 45, 45, 45, 45, 45, 45, 45, 45, 45, 45, 45, 45, 45, 45, 45, 45, 45, 45, 45, 45, 45, 45, 45, 45, 45, 45, 45, 45, 45, 45, 45, 45, 45]⟩ ⟨#[48]⟩ = false := by decide +kernel
  have e3 : hpB ⟨#[48, 48, 48, 48, 48, 48, 48, 48, 48, 48, 48, 48, 48, 48, 48, 48, 48, 48, 48, 48, 48, 48, 48, 48, 48, 48, 48, 48, 48, 48, 48, 48, 48, 48, 48, 48, 48, 48, 48, 48, 48, 48, 48, 48, 48, 48, 48, 48, 48, 48, 48, 48, 48, 48, 48, 48, 48, 48, 48, 48, 48, 48, 48, 48]⟩ ⟨#[48]⟩ = true := by decide +kernel
  have hm := hide (mul1_any w n hn)
  have hz := hide (zeros_take n hn)
  clear hn h2
  go_enter Tryz.func179, Tryz.ntmps179
  go_wp2_with (first | (go_at_call 206; refine hm.out.mono ?_; rintro e w' ⟨rfl, rfl⟩) | (go_at_call 207; refine (hpB_any _ _ _).mono ?_; rintro e w' ⟨rfl, rfl⟩))
  go_ret
  rw [← hz.out]
  exact ⟨rfl, rfl⟩
def segV (n : Int) : Value := if n < 1 then .tuple #[.string ⟨#[]⟩, .int .i64 1] else .tuple #[.string (bs (segL n.toNat)), .int .i64 0]
theorem segV_small {n : Int} (h : n < 1) : segV n = .tuple #[.string ⟨#[]⟩, .int .i64 1] := if_pos h
theorem segV_big {n : Nat} (h : 1 ≤ n) : segV (n : Int) = .tuple #[.string (bs (segL n)), .int .i64 0] := by rw [segV, if_neg (by omega)]; rfl
theorem bs_append (x y : List UInt8) : bs x ++ bs y = bs (x ++ y) := by
 apply ByteArray.ext
 apply Array.toList_inj.1
 simp [bs]
theorem segment_any (w : World) (n : Int) (hn : n < 9223372036854775808) (hT : Tab16 w) : Calls Tryz.prog 124 #[.int .i64 n] w fun e w' => e = .returned (segV n) ∧ Below w.heap.size w w' := by
 by_cases h1 : n < 1
 ·rw [segV_small h1]
  go_enter Tryz.func124, Tryz.ntmps124
  go_wp2
  go_ret2
  exact ⟨rfl, Below.refl _ _⟩
 ·obtain ⟨m, rfl⟩ : ∃ m : Nat, n = (m : Int) := ⟨n.toNat, by omega⟩
  rw [segV_big (by omega)]
  have hf := hide (format_any w m (by omega) hT)
  obtain ⟨h2, h3⟩ := digs_seg (n := m) (by omega)
  have h4 := digs_pos m
  have hr := hide (fun q => repeat_any q (16 - (digs m).length) (by omega))
  have hs := bs_size (digs m)
  obtain ⟨k, hk⟩ : ∃ k, k = 16 - (digs m).length := ⟨_, rfl⟩
  have hk2 : (16 : Int) - ((bs (digs m)).size : Int) = (k : Int) := by omega
  rw [← hk] at hr h3
  replace h3 := hide h3
  have hk3 : ((bs (digs m)).size : Int) ≤ 16 := by omega
  have hk4 : (0 : Int) ≤ ((bs (digs m)).size : Int) := by omega
  have hrs := bs_size (List.replicate k 48)
  rw [List.length_replicate] at hrs
  have s1 : ¬ 9223372036854775807 < 4 + (bs (List.replicate k 48)).size := by omega
  have s2 : ¬ 9223372036854775807 < 4 + (bs (List.replicate k 48)).size + (bs (digs m)).size := by omega
  have s3 : ¬ 9223372036854775807 < 4 + (bs (List.replicate k 48)).size + (bs (digs m)).size + 4 := by omega
  have hj : Hid ((⟨#[115, 101, 103, 45]⟩ : ByteArray) ++ bs (List.replicate k 48) ++ bs (digs m) ++ (⟨#[46, 108, 111, 103]⟩ : ByteArray) = bs (segL m)) := by
   show _ = _
   rw [← h3.out, ← bs_append, ← bs_append, ← bs_append]
   rfl
  clear hs h2 h4 hk hn hrs h3
  go_enter Tryz.func124, Tryz.ntmps124
  go_wp2_with (first | (go_at_call 178; refine hf.out.mono ?_; rintro e w' ⟨rfl, hb⟩) | (go_at_call 179; refine (hr.out _).mono ?_; rintro e w' ⟨rfl, rfl⟩))
  go_ret2
  rw [← hj.out]
  exact ⟨rfl, hb⟩
end Go.Proofs.YtnimildpcnmjeaaGreatDoor.Nm
namespace Go.Proofs.YtnimildpcnmjeaaGreatDoor.Sg
open Go.RowKit Go.Maps Go.Proofs.YtnimildpcnmjeaaGreatDoor.Dk
def sv (f : Int) : Value := .int .u32 f
def sd (f : Int) : DataW Unit := .lit (.int .u32 f)
def seedR : Value → Option (DataW Unit × List MemPlace)
 | .int .u32 a => some (sd a, [])
 | _ => none
theorem seedR_sv (f : Int) : seedR (sv f) = some (sd f, []) := rfl
theorem seedR_inv {v : Value} {f : Int} {ps : List MemPlace} (h : seedR v = some (sd f, ps)) : v = sv f := by
 unfold seedR at h
 split at h
 ·simp [sd] at h
  obtain ⟨h1, _⟩ := h
  subst h1
  rfl
 ·simp at h
abbrev Sr := List (Int × Int)
def sent (p : Int × Int) : Lit × DataW Unit := (.int .i64 p.1, sd p.2)
def seedD (l : Sr) : DataW Unit := .map (l.map sent)
def sget (l : Sr) (n : Int) : Option Int := (l.find? fun p => p.1 == n).map (·.2)
def sins (x : Int × Int) : Sr → Sr
 | [] => [x]
 | y :: r => if x.1 < y.1 then x :: y :: r else y :: sins x r
def sdel (l : Sr) (n : Int) : Sr := l.filter fun p => !(p.1 == n)
def sput (l : Sr) (n : Int) (f : Int) : Sr := sins (n, f) (sdel l n)
theorem insert_sent (x : Int × Int) : ∀ l : Sr, DataW.insert (sent x) (l.map sent) = (sins x l).map sent := by
 intro l
 induction l with
 | nil => rfl
 | cons y r ih =>
  simp only [List.map_cons, DataW.insert, sins]
  have e : (sent x).1.before (sent y).1 = decide (x.1 < y.1) := rfl
  rw [e]
  by_cases h : x.1 < y.1
  ·simp [h]
  ·simp [h, ih]
theorem same_sent (n : Int) (p : Int × Int) : (sent p).1.sameKey (.int .i64 n) = (p.1 == n) := by
 unfold sent Lit.sameKey
 simp
 rfl
theorem filter_sent (l : Sr) (n : Int) : (l.map sent).filter (fun p => !p.1.sameKey (.int .i64 n)) = (sdel l n).map sent := by
 unfold sdel
 rw [List.filter_map]
 congr 1
 apply List.filter_congr
 intro p _
 simp only [Function.comp, same_sent]
theorem seedD_put (l : Sr) (n : Int) (f : Int) : (seedD l).put (.int .i64 n) (sd f) = seedD (sput l n f) := by
 show DataW.map _ = DataW.map _
 rw [filter_sent]
 exact congrArg DataW.map (insert_sent (n, f) (sdel l n))
theorem find_sent (l : Sr) (n : Int) : (l.map sent).find? (fun p => p.1.sameKey (.int .i64 n)) = (l.find? fun p => p.1 == n).map sent := by
 rw [List.find?_map]
 have : ((fun p : Lit × DataW Unit => p.1.sameKey (.int .i64 n)) ∘ sent) = fun p => p.1 == n := funext fun p => same_sent n p
 rw [this]
theorem seedD_at (l : Sr) (n : Int) : (seedD l).atKey (.int .i64 n) (sd 0) = sd ((sget l n).getD 0) := by
 unfold seedD DataW.atKey sget
 simp only []
 rw [find_sent]
 cases l.find? fun p => p.1 == n with
 | none => rfl
 | some p => rfl
theorem seedD_size (l : Sr) : Maps.size (seedD l) = l.length := by simp [Maps.size, seedD]
def TS : TypeId := 107
theorem undS : Tryz.prog.underlying TS = some (.map TI 49) := Tryz.underlying107
theorem zeroSd (w : World) : (zeroValue 49).run Tryz.prog w = .ok (sv 0) w := by kernel_rfl
def Sm (w : World) (b : Nat) (l : Sr) : Prop := w.ownsMap Tryz.prog TI seedR b l.length (seedD l)
theorem Sm.of {w : World} {b n : Nat} {l : Sr} (h : w.ownsMap Tryz.prog TI seedR b n (seedD l)) : Sm w b l := by
 obtain ⟨es, clock, hb, F, _, hD⟩ := h
 refine ⟨es, clock, hb, F, ?_, hD⟩
 have e1 : Maps.size (seedD l) = l.length := seedD_size l
 rw [hD] at e1
 have e2 := length_read (P := Tryz.prog) (k := TI) (R0 := seedR) es
 simp only [Maps.size] at e1
 omega
theorem Sm.lt {w : World} {b : Nat} {l : Sr} (h : Sm w b l) : b < w.heap.size := World.ownsMap.lt h
theorem Sm.heap {w w' : World} {b : Nat} {l : Sr} (h : Sm w b l) (e : w'.heap[b]? = w.heap[b]?) : Sm w' b l := by
 obtain ⟨es, clock, hb, r⟩ := h
 exact ⟨es, clock, e.trans hb, r⟩
theorem Sm.look {w : World} {b : Nat} {l : Sr} {n : Int} (h : Sm w b l) (h0 : -9223372036854775808 ≤ n) (h1 : n ≤ 9223372036854775807) : (Instr.lookup TS (.map (some b)) (.int .i64 n) false).run Tryz.prog w = .ok (sv ((sget l n).getD 0)) w := by
 obtain ⟨v, ps, hrun, hv⟩ := World.ownsMap.lookup h keyI undS (zeroSd w) (seedR_sv 0) (keyNum h0 h1)
 rw [seedD_at] at hv
 rw [hrun, seedR_inv hv]
theorem Sm.store {w : World} {b : Nat} {l : Sr} {n : Int} {f : Int} (h : Sm w b l) (h0 : -9223372036854775808 ≤ n) (h1 : n ≤ 9223372036854775807) (hl : l.length < maxLen) :
    ∃ w', (Instr.mapUpdate TS (.map (some b)) (.int .i64 n) (sv f)).run Tryz.prog w = .ok () w' ∧ Sm w' b (sput l n f) ∧ w.mapTurned w' b := by
 obtain ⟨w', hrun, ho, ht⟩ := World.ownsMap.store h keyI undS hl (keyNum h0 h1) (seedR_sv f)
 rw [seedD_put] at ho
 exact ⟨w', hrun, Sm.of ho, ht⟩
theorem Sm.made (w : World) : Sm (w.alloc (.map #[] 0)) w.heap.size [] := Sm.of (l := []) (World.ownsMap_made w _ _ _)
theorem sget_sput (l : Sr) (n f : Int) : sget (sput l n f) n = some f := by
 have ins : ∀ r : Sr, (∀ p ∈ r, p.1 ≠ n) → sget (sins (n, f) r) n = some f := fun r => by
  induction r with
  | nil => intro _; simp [sins, sget]
  | cons y r ih =>
   intro h
   have hy : (y.1 == n) = false := by simpa using h y (by simp)
   simp only [sins]
   split
   ·simp [sget]
   ·have := ih (fun p hp => h p (by simp [hp]))
    simp only [sget, List.find?_cons, hy] at this ⊢
    exact this
 refine ins _ fun p hp => ?_
 have := (List.mem_filter.1 hp).2
 simpa using this
end Go.Proofs.YtnimildpcnmjeaaGreatDoor.Sg
namespace Go.Proofs.YtnimildpcnmjeaaGreatDoor.Ix
structure X where
 st : Nat
 l : List (Int × Int)
 la : Int × Int
def lastE (l : List (Int × Int)) : Int × Int := l.getLast?.getD (0, 0)
def addF (x : X) (n o : Int) : Int × X :=
 if n < 1 ∨ o < 0 ∨ 2147483647 < o then (1, x)
 else if x.l ≠ [] ∧ ¬ (n - 1 = x.la.1 ∧ x.la.2 < o) then (63, x)
 else (0, ⟨x.st, if x.l = [] ∨ (x.st : Int) ≤ o - (lastE x.l).2 then x.l ++ [(n, o)] else x.l, (n, o)⟩)
def cnt (l : List (Int × Int)) (n : Int) : Nat := l.countP fun e => decide (e.1 < n)
def findF (l : List (Int × Int)) (n : Int) : (Int × Int) × Bool :=
 match (l.filter fun e => decide (e.1 ≤ n)).getLast? with
 | some e => (e, true)
 | none => ((0, 0), false)
structure Srt (st : Nat) (l : List (Int × Int)) : Prop where
 s0 : 1 ≤ st
 s1 : st ≤ 1048576
 up : l.Pairwise fun a b => a.1 < b.1 ∧ a.2 + (st : Int) ≤ b.2
 rng : ∀ e ∈ l, 1 ≤ e.1 ∧ e.1 ≤ 9223372036854775807 ∧ 0 ≤ e.2 ∧ e.2 ≤ 2147483647
structure Ok (x : X) : Prop where
 srt : Srt x.st x.l
 la0 : x.l = [] → x.la = (0, 0)
 la1 : x.l ≠ [] → (lastE x.l).1 ≤ x.la.1 ∧ (lastE x.l).2 ≤ x.la.2 ∧ x.la.1 ≤ 9223372036854775807 ∧ x.la.2 ≤ 2147483647
theorem lastE_snoc (l : List (Int × Int)) (e : Int × Int) : lastE (l ++ [e]) = e := by simp [lastE]
theorem lastE_get {l : List (Int × Int)} (h : l ≠ []) : lastE l = l[l.length - 1]'(by have := List.length_pos_iff.2 h; omega) := by
 unfold lastE
 rw [List.getLast?_eq_getElem?, List.getElem?_eq_getElem (by have := List.length_pos_iff.2 h; omega)]
 rfl
theorem Srt.lt {st : Nat} {l : List (Int × Int)} (h : Srt st l) {i j : Nat} (hi : i < l.length) (hj : j < l.length) (hij : i < j) : l[i].1 < l[j].1 ∧ l[i].2 + (st : Int) ≤ l[j].2 :=
 List.pairwise_iff_getElem.1 h.up i j hi hj hij
theorem Srt.le {st : Nat} {l : List (Int × Int)} (h : Srt st l) {i j : Nat} (hi : i < l.length) (hj : j < l.length) (hij : i ≤ j) : l[i].1 ≤ l[j].1 := by
 by_cases e : i = j
 ·subst e; exact Int.le_refl _
 ·have := (h.lt hi hj (by omega)).1; omega
theorem Srt.off {st : Nat} {l : List (Int × Int)} (h : Srt st l) : ∀ i (hi : i < l.length), (i : Int) ≤ l[i].2 := by
 intro i
 induction i with
 | zero => intro hi; have := (h.rng _ (List.getElem_mem hi)).2.2.1; simpa using this
 | succ i ih =>
  intro hi
  have a := ih (by omega)
  have b := (h.lt (by omega : i < l.length) hi (by omega)).2
  have := h.s0
  omega
theorem Srt.len {st : Nat} {l : List (Int × Int)} (h : Srt st l) : l.length ≤ 2147483648 := by
 by_cases e : l.length = 0
 ·omega
 ·have a := h.off (l.length - 1) (by omega)
  have b := (h.rng _ (List.getElem_mem (show l.length - 1 < l.length by omega))).2.2.2
  omega
theorem Srt.snoc {st : Nat} {l : List (Int × Int)} (h : Srt st l) {e : Int × Int} (h1 : 1 ≤ e.1 ∧ e.1 ≤ 9223372036854775807 ∧ 0 ≤ e.2 ∧ e.2 ≤ 2147483647) (h2 : l ≠ [] → (lastE l).1 < e.1 ∧ (lastE l).2 + (st : Int) ≤ e.2) : Srt st (l ++ [e]) := by
 refine ⟨h.s0, h.s1, ?_, ?_⟩
 ·rw [List.pairwise_append]
  refine ⟨h.up, List.pairwise_singleton _ _, ?_⟩
  intro a ha b hb
  rw [List.mem_singleton.1 hb]
  obtain ⟨i, hi, rfl⟩ := List.getElem_of_mem ha
  have hne : l ≠ [] := fun c => by subst c; simp at hi
  obtain ⟨g1, g2⟩ := h2 hne
  rw [lastE_get hne] at g1 g2
  by_cases c : i = l.length - 1
  ·subst c; exact ⟨g1, g2⟩
  ·have := h.lt hi (show l.length - 1 < l.length by omega) (by omega)
   have := h.s0
   exact ⟨by omega, by omega⟩
 ·intro a ha
  rcases List.mem_append.1 ha with ha | ha
  ·exact h.rng a ha
  ·rw [List.mem_singleton.1 ha]; exact h1
theorem Ok.new {st : Nat} (h0 : 1 ≤ st) (h1 : st ≤ 1048576) : Ok ⟨st, [], (0, 0)⟩ :=
 ⟨⟨h0, h1, List.Pairwise.nil, fun e he => by simp at he⟩, fun _ => rfl, fun h => absurd rfl h⟩
theorem Ok.add {x : X} (h : Ok x) (n o : Int) (hn : n ≤ 9223372036854775807) : Ok (addF x n o).2 := by
 unfold addF
 split
 ·exact h
 rename_i h1
 split
 ·exact h
 rename_i h2
 refine ⟨?_, ?_, ?_⟩
 ·show Srt x.st (if x.l = [] ∨ (x.st : Int) ≤ o - (lastE x.l).2 then x.l ++ [(n, o)] else x.l)
  split
  ·rename_i h3
   refine h.srt.snoc ⟨by show 1 ≤ n; omega, hn, by show 0 ≤ o; omega, by show o ≤ 2147483647; omega⟩ fun hne => ?_
   have h4 : n - 1 = x.la.1 ∧ x.la.2 < o := Classical.byContradiction fun c => h2 ⟨hne, c⟩
   obtain ⟨a, b, _⟩ := h.la1 hne
   rcases h3 with h3 | h3
   ·exact absurd h3 hne
   ·exact ⟨by show _ < n; omega, by show _ ≤ o; omega⟩
  ·exact h.srt
 ·show (if x.l = [] ∨ (x.st : Int) ≤ o - (lastE x.l).2 then x.l ++ [(n, o)] else x.l) = [] → _
  split
  ·intro c; simp at c
  ·rename_i h3; intro c; exact absurd (Or.inl c) h3
 ·intro _
  show (lastE (if x.l = [] ∨ (x.st : Int) ≤ o - (lastE x.l).2 then x.l ++ [(n, o)] else x.l)).1 ≤ n ∧ (lastE (if x.l = [] ∨ (x.st : Int) ≤ o - (lastE x.l).2 then x.l ++ [(n, o)] else x.l)).2 ≤ o ∧ n ≤ 9223372036854775807 ∧ o ≤ 2147483647
  split
  ·rw [lastE_snoc]; exact ⟨Int.le_refl _, Int.le_refl _, hn, by omega⟩
  ·rename_i h3
   have hne : x.l ≠ [] := fun c => h3 (Or.inl c)
   have h4 : n - 1 = x.la.1 ∧ x.la.2 < o := Classical.byContradiction fun c => h2 ⟨hne, c⟩
   obtain ⟨a, b, _⟩ := h.la1 hne
   exact ⟨by omega, by omega, hn, by omega⟩
theorem cnt_le (l : List (Int × Int)) (n : Int) : cnt l n ≤ l.length := List.countP_le_length
theorem cnt_eq {l : List (Int × Int)} {n : Int} {k : Nat} (hk : k ≤ l.length) (h1 : ∀ i (hi : i < l.length), i < k → l[i].1 < n) (h2 : ∀ i (hi : i < l.length), k ≤ i → n ≤ l[i].1) : cnt l n = k := by
 induction l generalizing k with
 | nil => simp at hk; subst hk; rfl
 | cons a r ih =>
  unfold cnt at ih ⊢
  match k with
  | 0 =>
   rw [List.countP_cons_of_neg (by have := h2 0 (by simp) (by omega); simp at this ⊢; omega), ih (k := 0) (by omega) (fun i hi h => by omega) (fun i hi h => by have := h2 (i + 1) (by simp; omega) (by omega); simpa using this)]
  | k + 1 =>
   rw [List.countP_cons_of_pos (by have := h1 0 (by simp) (by omega); simpa using this), ih (k := k) (by simpa using hk) (fun i hi h => by have := h1 (i + 1) (by simp; omega) (by omega); simpa using this) (fun i hi h => by have := h2 (i + 1) (by simp; omega) (by omega); simpa using this)]
theorem cnt_split {st : Nat} {l : List (Int × Int)} (h : Srt st l) (n : Int) : (∀ i (hi : i < l.length), i < cnt l n → l[i].1 < n) ∧ (∀ i (hi : i < l.length), cnt l n ≤ i → n ≤ l[i].1) := by
 have ex : ∃ k, k ≤ l.length ∧ (∀ i (hi : i < l.length), i < k → l[i].1 < n) ∧ (∀ i (hi : i < l.length), k ≤ i → n ≤ l[i].1) := by
  have : ∀ m, m ≤ l.length → ∃ k, k ≤ m ∧ (∀ i (hi : i < l.length), i < k → l[i].1 < n) ∧ (∀ i (hi : i < l.length), i < m → k ≤ i → n ≤ l[i].1) := by
   intro m
   induction m with
   | zero => exact fun _ => ⟨0, Nat.le_refl _, fun i hi h => by omega, fun i hi h => by omega⟩
   | succ m ih =>
    intro hm
    obtain ⟨k, a, b, c⟩ := ih (by omega)
    by_cases e : l[m].1 < n
    ·refine ⟨m + 1, Nat.le_refl _, fun i hi _ => ?_, fun i hi h1 h2 => by omega⟩
     have := h.le hi (show m < l.length by omega) (by omega)
     omega
    ·refine ⟨k, by omega, b, fun i hi h1 h2 => ?_⟩
     by_cases g : i = m
     ·subst g; omega
     ·exact c i hi (by omega) h2
  obtain ⟨k, a, b, c⟩ := this l.length (Nat.le_refl _)
  exact ⟨k, a, b, fun i hi h => c i hi hi h⟩
 obtain ⟨k, a, b, c⟩ := ex
 rw [cnt_eq a b c]
 exact ⟨b, c⟩
theorem find_at {l : List (Int × Int)} {n : Int} {i : Nat} (hi : i < l.length) (h1 : l[i].1 ≤ n) (h2 : ∀ j (hj : j < l.length), i < j → n < l[j].1) : findF l n = (l[i], true) := by
 have e : l = l.take i ++ (l[i] :: l.drop (i + 1)) := by rw [← List.drop_eq_getElem_cons hi, List.take_append_drop]
 have f0 : (l.drop (i + 1)).filter (fun e => decide (e.1 ≤ n)) = [] := by
  rw [List.filter_eq_nil_iff]
  intro a ha
  obtain ⟨j, hj, rfl⟩ := List.getElem_of_mem ha
  rw [List.getElem_drop]
  have := h2 (i + 1 + j) (by simp at hj; omega) (by omega)
  simp; omega
 have : l.filter (fun e => decide (e.1 ≤ n)) = (l.take i).filter (fun e => decide (e.1 ≤ n)) ++ [l[i]] := by
  conv => lhs; rw [e]
  rw [List.filter_append, List.filter_cons_of_pos (by simpa using h1), f0]
 unfold findF
 rw [this]
 simp
theorem find_no {l : List (Int × Int)} {n : Int} (h : ∀ j (hj : j < l.length), n < l[j].1) : findF l n = ((0, 0), false) := by
 have : l.filter (fun e => decide (e.1 ≤ n)) = [] := by
  rw [List.filter_eq_nil_iff]
  intro a ha
  obtain ⟨j, hj, rfl⟩ := List.getElem_of_mem ha
  have := h j hj
  simp; omega
 unfold findF
 rw [this]
 rfl
end Go.Proofs.YtnimildpcnmjeaaGreatDoor.Ix
namespace Go.Proofs.YtnimildpcnmjeaaGreatDoor.Ix
open Go.RowKit
def ecells (l : List (Int × Int)) : List Value := l.flatMap fun e => [.int .i64 e.1, .int .i64 e.2]
theorem ecells_snoc (l : List (Int × Int)) (e : Int × Int) : ecells (l ++ [e]) = ecells l ++ [.int .i64 e.1, .int .i64 e.2] := by simp [ecells]
theorem ecells_get (l : List (Int × Int)) : ∀ i (h : i < l.length), (ecells l)[i * 2]? = some (.int .i64 l[i].1) ∧ (ecells l)[i * 2 + 1]? = some (.int .i64 l[i].2) := by
 induction l with
 | nil => intro i h; simp at h
 | cons p r ih =>
  intro i h
  rw [ecells, List.flatMap_cons, ← ecells]
  match i with
  | 0 => simp
  | i + 1 =>
   have := ih i (by simpa using h)
   rw [show (i + 1) * 2 = i * 2 + 1 + 1 by omega]
   simpa using this
def Ents (w : World) (v : Value) (l : List (Int × Int)) : Prop := w.ownsRow 0 117 2 v l.length (ecells l)
theorem Ents.nil (w : World) : Ents w (.slice none 0 0) [] := World.ownsRow_nil _ _ _ _
theorem Ents.form {w : World} {v : Value} {l : List (Int × Int)} (h : Ents w v l) : ∃ ao ca, v = .slice ao l.length ca ∧ ca ≤ 9223372036854775807 ∧ l.length ≤ ca := by
 rcases h.2 with ⟨rfl, e⟩ | ⟨g, cap, cur, rfl, _, _, a, b, _⟩
 ·exact ⟨_, _, by rw [e], by omega, by omega⟩
 ·exact ⟨_, _, rfl, by unfold maxLen at b; omega, a⟩
theorem Ents.at {w : World} {v : Value} {l : List (Int × Int)} (h : Ents w v l) (hl : l ≠ []) : ∃ g ca, v = .slice (some ⟨g, 0, none⟩) l.length ca ∧ (∀ i (hi : i < l.length), w.cell? ⟨g, i * 2, none⟩ = some (.int .i64 l[i].1) ∧ w.cell? ⟨g, i * 2 + 1, none⟩ = some (.int .i64 l[i].2)) ∧ l.length ≤ ca ∧ ca ≤ 9223372036854775807 ∧ g < w.heap.size := by
 have h0 := h
 rcases h.2 with ⟨rfl, e⟩ | ⟨g, cap, cur, rfl, _, hh, a, b, c, d⟩
 ·exact absurd (List.length_eq_zero_iff.1 e) hl
 ·refine ⟨g, cap, rfl, fun i hi => ?_, a, by unfold maxLen at b; omega, heap_lt hh⟩
  obtain ⟨e1, e2⟩ := ecells_get l i hi
  have hc : ∀ j, j < l.length * 2 → w.cell? ⟨g, j, none⟩ = (ecells l)[j]? := by
   intro j hj
   rw [← d, List.getElem?_take_of_lt hj]
   simp [World.cell?, hh]
  exact ⟨by rw [hc _ (by omega), e1], by rw [hc _ (by omega), e2]⟩
theorem Ents.but {X : Nat → Prop} {A B : World} {v : Value} {l : List (Int × Int)} (h : Ents A v l) (hb : But X A B) (hx : ∀ k, v.ownBlock = some k → ¬ X k) : Ents B v l := by
 refine ⟨h.1, ?_⟩
 rcases h.2 with h | ⟨g, cap, cur, rfl, hg, hh, r⟩
 ·exact .inl h
 ·exact .inr ⟨g, cap, cur, rfl, hg, hb.at hh (hx g rfl), r⟩
theorem Ents.no {w : World} {v : Value} {l : List (Int × Int)} {b : Nat} {cs : Array Value} {T : TypeId} {fz : Nat × Nat} (h : Ents w v l) (hb : w.heap[b]? = some (.cells cs T fz)) (hT : T ≠ 117) : v.ownBlock ≠ some b := fun e1 => by
 rcases h.2 with ⟨rfl, _⟩ | ⟨g, cap, cur, rfl, hg, hh, r⟩
 ·simp [Value.ownBlock] at e1
 ·simp [Value.ownBlock] at e1
  subst e1
  rw [hb] at hh
  simp at hh
  exact hT hh.2.1
theorem Ents.lt {w : World} {v : Value} {l : List (Int × Int)} (h : Ents w v l) : ∀ k, v.ownBlock = some k → k < w.heap.size := fun k hk => (World.ownsRow.lt h k hk).2
structure At (T : TypeId) (w : World) (b : Nat) (x : X) (v : Value) : Prop where
 box : w.heap[b]? = some (.cells #[.int .i64 (x.st : Int), v, .int .i64 x.la.1, .int .i64 x.la.2] T (0, 0))
 row : Ents w v x.l
def Own (b : Nat) (v : Value) : Nat → Prop := fun k => k = b ∨ v.ownBlock = some k
theorem At.but {T : TypeId} {Y : Nat → Prop} {A B : World} {b : Nat} {x : X} {v : Value} (h : At T A b x v) (hb : But Y A B) (hx : ∀ k, Own b v k → ¬ Y k) : At T B b x v :=
 ⟨hb.at h.box (hx b (.inl rfl)), h.row.but hb fun k hk => hx k (.inr hk)⟩
theorem At.below {T : TypeId} {A B : World} {b : Nat} {x : X} {v : Value} (h : At T A b x v) (hb : Below A.heap.size A B) : At T B b x v := h.but (But.of_below hb fun _ => False) fun _ _ c => c
theorem At.lt {T : TypeId} {w : World} {b : Nat} {x : X} {v : Value} (h : At T w b x v) : ∀ k, Own b v k → k < w.heap.size := by
 rintro k (rfl | hk)
 ·exact heap_lt h.box
 ·exact h.row.lt k hk
theorem At.cells {T : TypeId} {w : World} {b : Nat} {x : X} {v : Value} (h : At T w b x v) : w.cell? ⟨b, 0, none⟩ = some (.int .i64 (x.st : Int)) ∧ w.cell? ⟨b, 1, none⟩ = some v ∧ w.cell? ⟨b, 2, none⟩ = some (.int .i64 x.la.1) ∧ w.cell? ⟨b, 3, none⟩ = some (.int .i64 x.la.2) := by
 have := h.box
 simp [World.cell?, this]
theorem At.frozen {T : TypeId} {w : World} {b : Nat} {x : X} {v : Value} (h : At T w b x v) : w.frozen? ⟨b, 0, none⟩ = false ∧ w.frozen? ⟨b, 1, none⟩ = false ∧ w.frozen? ⟨b, 2, none⟩ = false ∧ w.frozen? ⟨b, 3, none⟩ = false := by
 have := h.box
 simp [World.frozen?, this]
def TI : TypeId := 161
def DoesNew (T : TypeId) (f : Nat) : Prop := ∀ (w : World) (st : Int), -9223372036854775808 ≤ st → st ≤ 9223372036854775807 →
 Calls Tryz.prog f #[.int .i64 st] w fun e w' => Below w.heap.size w w' ∧ ((¬ (1 ≤ st ∧ st ≤ 1048576) ∧ e = .returned (.tuple #[.pointer none, .int .i64 1])) ∨
  (1 ≤ st ∧ st ≤ 1048576 ∧ ∃ b, w.heap.size ≤ b ∧ e = .returned (.tuple #[.pointer (some ⟨b, 0, none⟩), .int .i64 0]) ∧ At T w' b ⟨st.toNat, [], (0, 0)⟩ (.slice none 0 0)))
theorem new_any : DoesNew TI 177 := by
 intro w st h0 h1
 by_cases h2 : 1 ≤ st ∧ st ≤ 1048576
 ·obtain ⟨g1, g2⟩ := h2
  go_enter Tryz.func177, Tryz.ntmps177
  go_wp2_with fail
  go_ret2
  refine ⟨box_below _ _, .inr ⟨g1, g2, _, Nat.le_refl _, rfl, ?_, Ents.nil _⟩⟩
  rw [heap_alloc_new]
  simp [TI]; omega
 ·go_enter Tryz.func177, Tryz.ntmps177
  by_cases g1 : st < 1
  ·go_wp2_with fail
   go_ret2
   exact ⟨Below.refl _ _, by first | exact .inl ⟨h2, rfl⟩ | exact .inl rfl⟩
  ·have g2 : 1048576 < st := by omega
   go_wp2_with fail
   go_ret2
   exact ⟨Below.refl _ _, by first | exact .inl ⟨h2, rfl⟩ | exact .inl rfl⟩
theorem follows_any (w : World) (a1 a2 n o : Int) (h0 : 1 ≤ n) (h1 : n ≤ 9223372036854775807) :
    Calls Tryz.prog 182 #[.agg #[.int .i64 a1, .int .i64 a2], .agg #[.int .i64 n, .int .i64 o]] w fun e w' => e = .returned (.bool (decide (n - 1 = a1 ∧ a2 < o))) ∧ Below w.heap.size w w' := by
 have hB := hide ((box_below w (.cells #[.int .i64 a1, .int .i64 a2] 117)).alloc (by simp) (.cells #[.int .i64 n, .int .i64 o] 117))
 have hw : IntKind.i64.wrap (n - 1) = n - 1 := by rw [IntKind.wrap_i64]; omega
 go_enter Tryz.func182, Tryz.ntmps182
 by_cases h2 : n - 1 = a1
 ·subst h2
  by_cases h3 : a2 < o
  ·go_wp2_with fail
   go_ret
   exact ⟨by simp, hB.out⟩
  ·go_wp2_with fail
   go_ret
   exact ⟨by simp [h3], hB.out⟩
 ·go_wp2_with fail
  go_ret
  exact ⟨by simp [h2], hB.out⟩
def farF (x : X) (o : Int) : Bool := decide (x.l = [] ∨ (x.st : Int) ≤ o - (lastE x.l).2)
theorem far_any (w : World) (b : Nat) (x : X) (v : Value) (o : Int) (h : At TI w b x v) (hk : Ok x) (h0 : 0 ≤ o) (h1 : o ≤ 2147483647) :
    Calls Tryz.prog 183 #[.pointer (some ⟨b, 0, none⟩), .int .i64 o] w fun e w' => e = .returned (.bool (farF x o)) ∧ Qt w w' := by
 obtain ⟨c0, c1, _, _⟩ := h.cells
 by_cases hl : x.l = []
 ·have hf : Hid (farF x o = true) := by show _ = _; simp [farF, hl]
  obtain ⟨ao, ca, rfl, q1, q2⟩ := h.row.form
  rw [hl] at c1
  simp only [List.length_nil] at c1
  clear h q1 q2 hl
  go_enter Tryz.func183, Tryz.ntmps183
  go_wp2_with fail
  go_quiet (fail)
  go_wp2_with fail
  go_ret
  exact ⟨by rw [hf.out]; rfl, ⟨_, rfl⟩⟩
 ·obtain ⟨g, ca, rfl, hc, q1, q2, _⟩ := h.row.at hl
  have hp := List.length_pos_iff.2 hl
  obtain ⟨M, hM⟩ : ∃ M, x.l.length = M + 1 := ⟨x.l.length - 1, by omega⟩
  obtain ⟨k0, k1⟩ := hc M (by omega)
  have hle : lastE x.l = x.l[M]'(by omega) := by rw [lastE_get hl]; congr 1; omega
  have hr := hk.srt.rng _ (List.getElem_mem (show M < x.l.length by omega))
  have hf : Hid (farF x o = decide ((x.st : Int) ≤ o - (x.l[M]'(by omega)).2)) := by show _ = _; unfold farF; rw [hle]; simp [hl]
  have hlen := hk.srt.len
  have hs0 := hk.srt.s1
  generalize (x.l[M]'(by omega)) = en at *
  obtain ⟨e1, e2⟩ := en
  simp only at k0 k1 hf hr
  obtain ⟨r1, r2, r3, r4⟩ := hr
  rw [hM] at c1 q1 hlen
  have hw : IntKind.i64.wrap (o - e2) = o - e2 := by rw [IntKind.wrap_i64]; omega
  have hne : ¬ ((M : Int) + 1 = 0) := by omega
  have hw2 : IntKind.i64.wrap (M : Int) = (M : Int) := by rw [IntKind.wrap_i64]; omega
  have hb0 : ((M : Int) + 1 == 0) = false := by simpa using hne
  obtain ⟨st, hst⟩ : ∃ st, x.st = st := ⟨_, rfl⟩
  rw [hst] at c0 hf hs0
  clear h hle hM hp hc hl hst hk
  go_enter Tryz.func183, Tryz.ntmps183
  go_wp2_with fail
  go_quiet (fail)
  go_wp2_with fail
  go_ret
  exact ⟨by rw [hf.out]; first | rfl | simp, ⟨_, rfl⟩⟩
theorem At.setLa {T : TypeId} {w : World} {b : Nat} {x : X} {v : Value} (h : At T w b x v) (hT : T ≠ 117) (a1 a2 : Int) : At T ((w.setCell ⟨b, 2, none⟩ (.int .i64 a1)).setCell ⟨b, 3, none⟩ (.int .i64 a2)) b ⟨x.st, x.l, (a1, a2)⟩ v := by
 have h1 : (w.setCell ⟨b, 2, none⟩ (.int .i64 a1)).heap[b]? = some (.cells #[.int .i64 (x.st : Int), v, .int .i64 a1, .int .i64 x.la.2] T (0, 0)) := by
  rw [heap_setCell_same w b 2 _ _ _ h.box]; simp
 refine ⟨?_, ?_⟩
 ·rw [heap_setCell_same _ b 3 _ _ _ h1]; simp
 ·have g1 : But (fun k => k = b) w (w.setCell ⟨b, 2, none⟩ (.int .i64 a1)) := But.of_grownBy (grown_setCell _ _ _ _) fun k e => by cases e; rfl
  have g2 : But (fun k => k = b) (w.setCell ⟨b, 2, none⟩ (.int .i64 a1)) ((w.setCell ⟨b, 2, none⟩ (.int .i64 a1)).setCell ⟨b, 3, none⟩ (.int .i64 a2)) := But.of_grownBy (grown_setCell _ _ _ _) fun k e => by cases e; rfl
  exact h.row.but (g1.trans g2) fun k hk e => h.row.no h.box hT (by rw [← e]; exact hk)
theorem but_la (w : World) (b : Nat) (a1 a2 v : Value) : But (Own b v) w ((w.setCell ⟨b, 2, none⟩ a1).setCell ⟨b, 3, none⟩ a2) :=
 (But.of_grownBy (grown_setCell w b 2 a1) fun k e => by cases e; exact .inl rfl).trans (But.of_grownBy (grown_setCell _ b 3 a2) fun k e => by cases e; exact .inl rfl)
theorem At.app {T : TypeId} {w u w3 : World} {b : Nat} {x : X} {v v' : Value} {n o : Int} (h : At T w b x v) (hT : T ≠ 117) (hu : Below w.heap.size w u) (hg : u.grownBy w3 v.ownBlock)
    (ho : w3.ownsRow 0 117 2 v' (x.l.length + 1) (ecells x.l ++ [.int .i64 n, .int .i64 o])) (hat : v'.ownBlock = v.ownBlock ∨ ∃ k, v'.ownBlock = some k ∧ w.heap.size ≤ k) :
    w3.heap[b]? = some (.cells #[.int .i64 (x.st : Int), v, .int .i64 x.la.1, .int .i64 x.la.2] T (0, 0)) ∧ At T (w3.setCell ⟨b, 1, none⟩ v') b ⟨x.st, x.l ++ [(n, o)], x.la⟩ v' ∧ But (Own b v) w (w3.setCell ⟨b, 1, none⟩ v') ∧ (∀ k, v'.ownBlock = some k → v.ownBlock = some k ∨ w.heap.size ≤ k) := by
 have hb : w3.heap[b]? = some (.cells #[.int .i64 (x.st : Int), v, .int .i64 x.la.1, .int .i64 x.la.2] T (0, 0)) := by
  have hl := heap_lt h.box
  rw [hg.block b (by have := hu.size; omega) (fun e => h.row.no h.box hT e.symm), hu.block b hl]
  exact h.box
 have hv : Ents w3 v' (x.l ++ [(n, o)]) := by
  unfold Ents
  rw [ecells_snoc, List.length_append]
  exact ho
 have g1 : But (fun k => k = b) w3 (w3.setCell ⟨b, 1, none⟩ v') := But.of_grownBy (grown_setCell _ _ _ _) fun k e => by cases e; rfl
 refine ⟨hb, ⟨?_, ?_⟩, ?_, ?_⟩
 ·rw [heap_setCell_same w3 b 1 _ _ _ hb]; simp
 ·exact hv.but g1 fun k hk e => hv.no hb hT (by rw [← e]; exact hk)
 ·exact ((But.of_below hu _).trans (But.of_grownBy hg fun k e => .inr e)).trans (g1.mono fun k _ e => .inl e)
 ·intro k hk
  rcases hat with e | ⟨k', e, hk'⟩
  ·exact .inl (by rw [← e]; exact hk)
  ·rw [e] at hk; cases hk; exact .inr hk'
theorem hat_of {v : Value} {g n c H B : Nat} (h : v.ownBlock = some g ∨ g = H) (hB : B ≤ H) : (Value.slice (some ⟨g, 0, none⟩) n c).ownBlock = v.ownBlock ∨ ∃ k, (Value.slice (some ⟨g, 0, none⟩) n c).ownBlock = some k ∧ B ≤ k := by
 rcases h with h | h
 ·exact .inl h.symm
 ·exact .inr ⟨g, rfl, by omega⟩
theorem infoEnt : (Tryz.prog.info? 117).map (fun i => (i.zero, i.size, i.bytes)) = some (some (.agg #[.int .i64 0, .int .i64 0]), 2, 16) := by kernel_rfl
theorem two_newE (w : World) (a b : Value) (T : TypeId) : ∀ (j : Nat) (u : Value), [a, b][j]? = some u → (w.alloc (.cells #[a, b] T)).cell? ((⟨w.heap.size, 0, none⟩ : Addr).add j) = some u := by
 intro j u h
 rw [addr_add]
 match j with
 | 0 => simp at h; subst h; unfold World.cell?; rw [show (w.alloc (.cells #[a, b] T)).heap[(⟨w.heap.size, 0 + 0, none⟩ : Addr).block]? = _ from heap_alloc_new _ _]; rfl
 | 1 => simp at h; subst h; unfold World.cell?; rw [show (w.alloc (.cells #[a, b] T)).heap[(⟨w.heap.size, 0 + 1, none⟩ : Addr).block]? = _ from heap_alloc_new _ _]; rfl
 | j + 2 => simp at h
def DoesAdd (T : TypeId) (f : Nat) : Prop := ∀ (w : World) (b : Nat) (x : X) (v : Value) (n o : Int), At T w b x v → Ok x → -9223372036854775808 ≤ n → n ≤ 9223372036854775807 → -9223372036854775808 ≤ o → o ≤ 9223372036854775807 →
 Calls Tryz.prog f #[.pointer (some ⟨b, 0, none⟩), .int .i64 n, .int .i64 o] w fun e w' => e = .returned (.int .i64 (addF x n o).1) ∧ ∃ v', At T w' b (addF x n o).2 v' ∧ But (Own b v) w w' ∧ (∀ k, v'.ownBlock = some k → v.ownBlock = some k ∨ w.heap.size ≤ k)
def Beh (w w2 : World) (b fb : Nat) (x : X) (v : Value) (n o : Int) : Prop := At TI w2 b x v ∧ w2.cell? ⟨fb, 0, none⟩ = some (.int .i64 n) ∧ w2.cell? ⟨fb, 1, none⟩ = some (.int .i64 o) ∧ Below w.heap.size w w2
theorem add_any : DoesAdd TI 130 := by
 intro w b x v n o h hk n0 n1 o0 o1
 obtain ⟨c0, c1, c2, c3⟩ := h.cells
 have s0 := hk.srt.s0
 have s1 := hk.srt.s1
 have hs0 : ¬ ((x.st : Int) = 0) := by omega
 have hb0 : ((x.st : Int) == 0) = false := by simpa using hs0
 by_cases ha : n < 1 ∨ o < 0 ∨ 2147483647 < o
 ·have hA : Hid (addF x n o = (1, x)) := by show _ = _; rw [addF, if_pos ha]
  have H := hide h
  clear h
  go_enter Tryz.func130, Tryz.ntmps130
  by_cases a1 : n < 1
  ·go_wp2_with fail
   go_ret
   rw [hA.out]
   exact ⟨rfl, v, H.out, But.refl _ _, fun k hk => .inl hk⟩
  by_cases a2 : o < 0
  ·go_wp2_with fail
   go_ret
   rw [hA.out]
   exact ⟨rfl, v, H.out, But.refl _ _, fun k hk => .inl hk⟩
  ·have a3 : 2147483647 < o := by omega
   go_wp2_with fail
   go_ret
   rw [hA.out]
   exact ⟨rfl, v, H.out, But.refl _ _, fun k hk => .inl hk⟩
 ·have a1 : ¬ n < 1 := by omega
  have a2 : ¬ o < 0 := by omega
  have a3 : ¬ 2147483647 < o := by omega
  have H := hide h
  have HA := hide ha
  obtain ⟨ao, ca, rfl, q1, q2⟩ := h.row.form
  have hlen := hk.srt.len
  have hW : Hid (At TI (w.alloc (.cells #[.int .i64 n, .int .i64 o] 117)) b x (.slice ao x.l.length ca)) := h.below (box_below _ _)
  have KS : Hid (∀ q : World, Below (w.alloc (.cells #[.int .i64 n, .int .i64 o] 117)).heap.size (w.alloc (.cells #[.int .i64 n, .int .i64 o] 117)) q → Beh w q b w.heap.size x (.slice ao x.l.length ca) n o) := fun q hq => by
   have hh := hq.block w.heap.size (by simp)
   rw [heap_alloc_new] at hh
   obtain ⟨y0, y1, _, _⟩ := two_cells hh
   exact ⟨hW.out.below hq, y0, y1, keepF (box_below _ _) hq⟩
  clear ha h
  obtain ⟨z, hz⟩ : ∃ z, Hid (z = decide (x.l ≠ [] ∧ ¬ (n - 1 = x.la.1 ∧ x.la.2 < o))) := ⟨_, rfl⟩
  have fbv : Hid ((Value.slice ao x.l.length ca).ownBlock ≠ some w.heap.size) := fun e => by have := H.out.row.lt _ e; omega
  obtain ⟨N, hN⟩ : ∃ N, Hid (x.l.length = N) := ⟨_, rfl⟩
  rw [hN.out] at H hlen hW KS c1 q2 fbv ⊢
  have hS0 := KS.out _ (Below.refl _ _)
  go_enter Tryz.func130, Tryz.ntmps130
  go_wp2_with fail
  generalize hw1 : w.alloc (.cells #[.int .i64 n, .int .i64 o] 117) = w1 at *
  clear hw1 c0 c1 c2 c3
  obtain ⟨d0, d1, d2, d3⟩ := hS0.1.cells
  obtain ⟨_, f0, f1, _⟩ := hS0
  go_cut [46] from 32 to 45 (fun y wx => y = .bool z ∧ Hid (Beh w wx b w.heap.size x (.slice ao N ca) n o))
  case first =>
   by_cases hl : x.l = []
   ·have hlz : N = 0 := by rw [← hN.out, hl]; rfl
    have hz' : Hid (z = false) := by show _ = _; rw [hz.out]; simp [hl]
    subst hlz
    go_quiet (fail)
    go_wp2_with fail
    go_meet
    case rel => exact ⟨by rw [hz'.out], KS.out _ (Qt.below ⟨_, rfl⟩ _)⟩
   ·have hnp : 0 < N := by rw [← hN.out]; exact List.length_pos_iff.2 hl
    have hni : (0 : Int) < (N : Int) := by omega
    have hz' : Hid ((!decide (n - 1 = x.la.1 ∧ x.la.2 < o)) = z) := by
     show _ = _
     rw [hz.out]
     by_cases q : (n - 1 = x.la.1 ∧ x.la.2 < o) <;> simp [hl, q]
    have KC : Hid (∀ q : World, Below w1.heap.size w1 q → Below w1.heap.size w1 q ∧ q.cell? ⟨b, 1, none⟩ = some (.slice ao N ca) ∧ q.cell? ⟨b, 2, none⟩ = some (.int .i64 x.la.1) ∧ q.cell? ⟨b, 3, none⟩ = some (.int .i64 x.la.2) ∧ q.cell? ⟨w.heap.size, 0, none⟩ = some (.int .i64 n) ∧ q.cell? ⟨w.heap.size, 1, none⟩ = some (.int .i64 o)) := fun q hq => by
     obtain ⟨a, b, c, _⟩ := KS.out q hq
     exact ⟨hq, a.cells.2.1, a.cells.2.2.1, a.cells.2.2.2, b, c⟩
    have hS1 := KC.out w1.drew (Below.refl _ _).drew
    obtain ⟨fv, hfv⟩ : ∃ fv, Hid (decide (n - 1 = x.la.1 ∧ x.la.2 < o) = fv) := ⟨_, rfl⟩
    rw [hfv.out] at hz'
    generalize x.la.1 = p1 at *
    generalize x.la.2 = p2 at *
    clear d0 d1 d2 d3 f0 f1
    go_region_held3 (fun q => Below w1.heap.size w1 q ∧ q.cell? ⟨b, 1, none⟩ = some (.slice ao N ca) ∧ q.cell? ⟨b, 2, none⟩ = some (.int .i64 p1) ∧ q.cell? ⟨b, 3, none⟩ = some (.int .i64 p2) ∧ q.cell? ⟨w.heap.size, 0, none⟩ = some (.int .i64 n) ∧ q.cell? ⟨w.heap.size, 1, none⟩ = some (.int .i64 o))
     (first | exact hS1 | assumption | exact KC.out _ KP | exact KC.out _ (Below.drew KP) | fail)
     (first
      | (go_at_call 182; refine (follows_any _ p1 p2 n o (by omega) n1).mono ?_; rintro e u1 ⟨rfl, B4⟩; rw [hfv.out]; have KP := keepF (And.left (by assumption)) B4)
      | fail)
    all_goals
     go_wp2_with fail
     go_meet
     case rel => exact ⟨by rw [← hz'.out], KS.out _ (And.left (by assumption))⟩
  case rest =>
   obtain ⟨rfl, hbh⟩ := hcut
   clear d0 d1 d2 d3 f0 f1 KS hW
   by_cases hzt : x.l ≠ [] ∧ ¬ (n - 1 = x.la.1 ∧ x.la.2 < o)
   ·have hA : Hid (addF x n o = (63, x)) := by show _ = _; rw [addF, if_neg HA.out, if_pos hzt]
    obtain rfl : z = true := by rw [hz.out]; exact decide_eq_true hzt
    have hF : Hid (At TI wc b x (.slice ao N ca) ∧ Below w.heap.size w wc) := ⟨hbh.out.1, hbh.out.2.2.2⟩
    go_wp2_with fail
    go_ret
    rw [hA.out]
    exact ⟨rfl, _, hF.out.1, But.of_below hF.out.2 _, fun k hk => .inl hk⟩
   ·have hA : Hid (addF x n o = (0, ⟨x.st, if x.l = [] ∨ (x.st : Int) ≤ o - (lastE x.l).2 then x.l ++ [(n, o)] else x.l, (n, o)⟩)) := by show _ = _; rw [addF, if_neg HA.out, if_neg hzt]
    obtain rfl : z = false := by rw [hz.out]; exact decide_eq_false hzt
    clear hzt hz
    go_wp2_with fail
    refine (far_any wc b x _ o hbh.out.1 hk (by omega) (by omega)).mono ?_
    rintro e w2 ⟨rfl, hq⟩
    have hb2 : Hid (Beh w w2 b w.heap.size x (.slice ao N ca) n o) := by
     obtain ⟨a1, a2, a3, a4⟩ := hbh.out
     have hqb := hq.below wc.heap.size
     exact ⟨a1.below hqb, by rw [hqb.cell (lt_of_cell a2)]; exact a2, by rw [hqb.cell (lt_of_cell a3)]; exact a3, keepF a4 hqb⟩
    clear hq hbh
    obtain ⟨d0, d1, d2, d3⟩ := hb2.out.1.cells
    obtain ⟨e0, e1, e2, e3⟩ := hb2.out.1.frozen
    obtain ⟨f0, f1, hB2⟩ := hb2.out.2
    replace hB2 := hide hB2
    by_cases hf : x.l = [] ∨ (x.st : Int) ≤ o - (lastE x.l).2
    ·rw [if_pos hf] at hA
     have hff : farF x o = true := by simpa [farF] using hf
     rw [hff]
     clear hf hff
     obtain ⟨i0, hi, hz0, hz1, hz2⟩ := info_parts infoEnt
     have ROW : Hid (w2.ownsRow 0 117 2 (.slice ao N ca) N (ecells x.l)) := by have := hb2.out.1.row; unfold Ents at this; rw [hN.out] at this; exact this
     have hszf : w.heap.size < w2.heap.size := lt_of_cell f0
     have hbl2 : b < w2.heap.size := lt_of_cell d0
     go_wp2_with fail
     go_region_law (first | (refine step_append_lies _ rfl (.tmp 54) (.tmp 56) 159 rfl 0 117 i0 (.agg #[.int .i64 0, .int .i64 0]) 2 16 Tryz.underlying159 hi hz0 hz1 hz2 rfl (by decide) (.slice ao N ca) N (ecells x.l) (by simp [Act.eval]) (ROW.out.alloc _) ⟨w2.heap.size, 0, none⟩ 1 1 [.int .i64 n, .int .i64 o] (by simp [Act.eval]) rfl (two_newE _ _ _ _) (by simp [Value.oneCell']) (by decide) (by unfold maxLen; omega) (by omega) (Nat.zero_le _) (w2.heap.size + 1) (by simp) ?_; intro g2 cap2 w3 hown3 hgrow3 hat hlt3; obtain ⟨F1, F2, F3, F4⟩ := At.app hb2.out.1 (by decide) (by first | exact (box_below w2 _).drew | exact (box_below w2.drew _) | exact box_below w2 _) hgrow3 (by rw [hN.out]; exact hown3) (hat_of hat (by omega)); have cc3 := (show w3.cell? ⟨b, 1, none⟩ = some (.slice ao N ca) by simp [World.cell?, F1]); have ff3 := (show w3.frozen? ⟨b, 1, none⟩ = false by simp [World.frozen?, F1])))
     all_goals
      have hbl : b < w.heap.size := H.out.lt b (.inl rfl)
      have y0 : w3.cell? ⟨w.heap.size, 0, none⟩ = some (.int .i64 n) := by
       rw [hgrow3.cell_far ⟨w.heap.size, 0, none⟩ (by simp; omega) (fun e => fbv.out e.symm), Below.cell (by first | exact (box_below w2 _).drew | exact (box_below w2.drew _) | exact box_below w2 _) (by simpa using hszf)]
       exact f0
      have y1 : w3.cell? ⟨w.heap.size, 1, none⟩ = some (.int .i64 o) := by
       rw [hgrow3.cell_far ⟨w.heap.size, 1, none⟩ (by simp; omega) (fun e => fbv.out e.symm), Below.cell (by first | exact (box_below w2 _).drew | exact (box_below w2.drew _) | exact box_below w2 _) (by simpa using hszf)]
       exact f1
      have z0 := (grown_setCell w3 b 1 (.slice (some ⟨g2, 0, none⟩) (N + 1) cap2)).cell y0 (by simp; omega)
      have z1 := (grown_setCell w3 b 1 (.slice (some ⟨g2, 0, none⟩) (N + 1) cap2)).cell y1 (by simp; omega)
      clear d0 d1 d2 d3 e0 e1 e2 e3 f0 f1 y0 y1 cc3 ff3 F1 hown3 hgrow3 hat hlt3 ROW hszf hbl2
      replace F3 := hide F3
      replace F4 := hide F4
      generalize w3.setCell ⟨b, 1, none⟩ (.slice (some ⟨g2, 0, none⟩) (N + 1) cap2) = w4 at *
      obtain ⟨d0, d1, d2, d3⟩ := F2.cells
      obtain ⟨e0, e1, e2, e3⟩ := F2.frozen
      replace F2 := hide F2
      go_wp2_with fail
      go_ret
      rw [hA.out]
      exact ⟨rfl, _, F2.out.setLa (by decide) n o, ((But.of_below hB2.out _).trans F3.out).trans (but_la _ _ _ _ _), fun k hk => (F4.out k hk).imp id fun h => Nat.le_trans hB2.out.size h⟩
    ·rw [if_neg hf] at hA
     have hff : farF x o = false := by simpa [farF] using hf
     rw [hff]
     clear hf hff
     go_wp2_with fail
     go_ret
     rw [hA.out]
     exact ⟨rfl, _, hb2.out.1.setLa (by decide) n o, (But.of_below hB2.out _).trans (but_la _ _ _ _ _), fun k hk => .inl hk⟩
end Go.Proofs.YtnimildpcnmjeaaGreatDoor.Ix
