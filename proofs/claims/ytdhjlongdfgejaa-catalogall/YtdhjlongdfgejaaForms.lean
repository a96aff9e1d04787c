/-
  What wire.Varint, wire.String, bytes.Clone, wire.Zig and wire.Zag answer.
-/
import Derived.Test.YtdhjlongdfgejaaGen
import Derived.Test.YtdhjlongdfgejaaEq
import Derived.Test.YtdhjlongdfgejaaAppendVarint
import Derived.Test.YtdhjlongdfgejaaSl
namespace Go.Proofs.Ytdhjlongdfgejaa
open Go.RowKit

theorem eq_sl (w : World) (x y : Value) (l m : List UInt8) (hx : Sl w x l) (hy : Sl w y m) :
    Calls Try.prog 15 #[x, y] w fun e w' => e = .returned (.bool (decide (l = m))) ∧ Qt w w' := by
  obtain ⟨ao, ca, rfl, _, h3, h4, h5⟩ := hx
  obtain ⟨bo, cb, rfl, _, k3, k4, k5⟩ := hy
  exact eq_any w ao bo l m ca cb (by omega) (by omega) h5 k5

set_option maxHeartbeats 400000 in
theorem varint_any (w : World) (n : Int) (h0 : 0 ≤ n) (hn : n < 18446744073709551616) :
    Calls Try.prog 49 #[.int .u64 n] w fun e w' => ∃ v', e = .returned v' ∧ w'.ownsRow w.heap.size 5 1 v' (enc n.toNat).length (bvals (enc n.toNat)) ∧ Below w.heap.size w w' := by
  obtain ⟨n, rfl⟩ := Int.eq_ofNat_of_zero_le h0
  rw [Int.toNat_natCast]
  have hn' : Hid (n < 18446744073709551616) := by show _ < _; omega
  clear h0 hn
  go_enter Try.func49, Try.ntmps49
  go_wp2_with fail
  refine (appendVarint_any w w.heap.size (.slice none 0 0) [] n hn'.out (Nat.le_refl _) (World.ownsRow_nil _ _ _ _) (by decide)).mono ?_
  rintro e w' ⟨v', rfl, ho, hb⟩
  go_wp2
  go_ret
  exact ⟨_, rfl, by simpa using ho, hb⟩

set_option maxHeartbeats 400000 in
theorem clone_any (w : World) (x : Value) (l : List UInt8) (hx : Sl w x l) (hlen : l.length ≤ 140737488355328) :
    Calls Try.prog 54 #[x] w fun e w' => ∃ v', e = .returned v' ∧ w'.ownsRow w.heap.size 5 1 v' l.length (bvals l) ∧ Below w.heap.size w w' := by
  have hx0 := hx
  obtain ⟨ao, ca, rfl, h2, h3, h4, h5⟩ := hx
  have he := fun (u : World) (ao : Option Addr) (n c n' c' : Nat) => Lib.run_eql_slice_nil (P := Try.prog) u 31 5 ao n c n' c' Try.underlying31
  cases ao with
  | none =>
    obtain ⟨rfl, rfl⟩ := h2 rfl
    go_enter Try.func54, Try.ntmps54
    go_wp2
    go_ret
    exact ⟨_, rfl, World.ownsRow_nil _ _ _ _, Below.refl _ _⟩
  | some ad =>
    clear h2
    go_enter Try.func54, Try.ntmps54
    go_wp2_with (at_builtin; refine wpList_append_bytes rfl (.tmp 5) (.tmp 6) 31 rfl w.heap.size 5 Try.infoU8 Try.underlying31 _ _ [] l rfl (World.ownsRow_made _ #[] 0 (Nat.le_refl _) (by decide) rfl) rfl (Below.sl ((Below.refl _ _).alloc (Nat.le_refl _) _) hx0) (by simpa using hlen) (by simp) ?_)
    intro v' w1 ho hb
    have hb1 : Below w.heap.size w w1 := ((Below.refl _ _).alloc (Nat.le_refl _) _).trans hb
    go_wp2
    go_ret
    exact ⟨_, rfl, by simpa using ho, hb1⟩

/-- Zag and Zig on integers. -/
def zag (u : Int) : Int := if u % 2 = 0 then u / 2 else -(u / 2) - 1
def zig (n : Int) : Int := if 0 ≤ n then 2 * n else -2 * n - 1

end Go.Proofs.Ytdhjlongdfgejaa
