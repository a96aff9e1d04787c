/-
  What wire.Varint, wire.String, bytes.Clone, wire.Zig and wire.Zag answer.
-/
import Derived.Test.YtojohcckaklmpaaDoorEq
import Derived.Test.YtojohcckaklmpaaDoorAppendVarint
import Derived.Test.YtojohcckaklmpaaDoorSl
namespace Go.Proofs.YtojohcckaklmpaaDoor
open Go.RowKit

theorem eq_sl (w : World) (x y : Value) (l m : List UInt8) (hx : Sl w x l) (hy : Sl w y m) :
    Calls Tryd.prog 14 #[x, y] w fun e w' => e = .returned (.bool (decide (l = m))) ∧ Qt w w' := by
  obtain ⟨ao, ca, rfl, _, h3, h4, h5⟩ := hx
  obtain ⟨bo, cb, rfl, _, k3, k4, k5⟩ := hy
  exact eq_any w ao bo l m ca cb (by omega) (by omega) h5 k5

set_option maxHeartbeats 400000 in
theorem varint_any (w : World) (n : Int) (h0 : 0 ≤ n) (hn : n < 18446744073709551616) :
    Calls Tryd.prog 21 #[.int .u64 n] w fun e w' => ∃ v', e = .returned v' ∧ w'.ownsRow w.heap.size 5 1 v' (enc n.toNat).length (bvals (enc n.toNat)) ∧ Below w.heap.size w w' := by
  obtain ⟨n, rfl⟩ := Int.eq_ofNat_of_zero_le h0
  rw [Int.toNat_natCast]
  have hn' : Hid (n < 18446744073709551616) := by show _ < _; omega
  clear h0 hn
  go_enter Tryd.func21, Tryd.ntmps21
  go_wp2_with fail
  refine (appendVarint_any w w.heap.size (.slice none 0 0) [] n hn'.out (Nat.le_refl _) (World.ownsRow_nil _ _ _ _) (by decide)).mono ?_
  rintro e w' ⟨v', rfl, ho, hb⟩
  go_wp2
  go_ret
  exact ⟨_, rfl, by simpa using ho, hb⟩

/-- Zag and Zig on integers. -/
def zag (u : Int) : Int := if u % 2 = 0 then u / 2 else -(u / 2) - 1
def zig (n : Int) : Int := if 0 ≤ n then 2 * n else -2 * n - 1

end Go.Proofs.YtojohcckaklmpaaDoor
