/-
  The document's WriteHead and ReadHead.
-/
import Derived.Test.YtophaolgmpdimaaFj
import Derived.BigRegion
namespace Go.Proofs.Ytophaolgmpdimaa
open Go.RowKit

set_option maxHeartbeats 1000000 in
theorem refWH_any : DoesWH 22 := by
  intro w nm bs seed g0 g1 g2 g3
  by_cases h1 : nm < 1
  · have E : Hid (whF nm bs seed = ([], 0#32, 1)) := by show _ = _; rw [whF, if_pos (Or.inl h1)]
    rw [E.out]
    go_enter Try.func22, Try.ntmps22
    go_wp2_with fail
    go_ret3
    exact ⟨_, rfl, World.ownsRow_nil _ _ _ _, box_below _ _⟩
  by_cases h2 : bs < 1
  · have E : Hid (whF nm bs seed = ([], 0#32, 1)) := by show _ = _; rw [whF, if_pos (Or.inr h2)]
    rw [E.out]
    go_enter Try.func22, Try.ntmps22
    go_wp2_with fail
    go_ret3
    exact ⟨_, rfl, World.ownsRow_nil _ _ _ _, box_below _ _⟩
  have E : Hid (whF nm bs seed = (hed nm.toNat bs.toNat seed, hsum nm.toNat bs.toNat seed, 0)) := by show _ = _; rw [whF, if_neg (by omega)]
  rw [E.out]
  obtain ⟨S, hS⟩ : ∃ S, Hid (hsum nm.toNat bs.toNat seed = S) := ⟨_, rfl⟩
  obtain ⟨L, hL⟩ : ∃ L, Hid (hfs nm.toNat bs.toNat seed = L) := ⟨_, rfl⟩
  obtain ⟨F, hF⟩ : ∃ F, Hid (L ++ fx 4 (Crc.maskOf S).toNat = F) := ⟨_, rfl⟩
  have E2 : Hid (hed nm.toNat bs.toNat seed = F) := by show _ = _; rw [← hF.out, ← hL.out, ← hS.out]; rfl
  have E3 : Hid (Crc.more 0#32 L = S) := by show _ = _; rw [← hL.out, ← hS.out]; rfl
  have hLl : Hid (L.length = 28) := by show _ = _; rw [← hL.out]; exact hfs_len _ _ _
  rw [E2.out, hS.out]
  have HK := hide (Crc.lt32 (Crc.maskOf S))
  have j1 := hide (show 1 ≤ nm by omega)
  have j2 := hide (show 1 ≤ bs by omega)
  clear E E2
  go_enter Try.func22, Try.ntmps22
  go_wp2_with fail
  refine (refBare_any _ nm bs seed j1.out g1 j2.out g3).mono ?_
  rintro e w1 ⟨v1, rfl, ho1, hb1⟩
  rw [hL.out] at ho1
  have hb01 := hide (keepF (box_below w (.cells #[.int .i64 nm, .int .i64 bs, .int .u32 (seed.toNat : Int)] 50)) hb1)
  have s1 := hide (Sl.of_owns ho1)
  have ho1' := hide (owns_lower (b' := w.heap.size) ho1 (by simp))
  clear ho1 hb1
  go_wp2_with fail
  refine (Crc.refSum_any _ _ _ s1.out).mono ?_
  rintro e w0 ⟨rfl, hw⟩
  obtain rfl := hw.symm
  rw [E3.out]
  go_wp2_with fail
  refine (Crc.refMask_any _ S).mono ?_
  rintro e w0 ⟨rfl, hw⟩
  obtain rfl := hw.symm
  have hk := HK.out
  go_wp2_with fail
  refine (refFixed_any w1 ((Crc.maskOf S).toNat : Int) 4 (by omega) (by omega) (by omega)).mono ?_
  rintro e w2 ⟨v2, rfl, ho2, hb2⟩
  rw [Int.toNat_natCast] at ho2
  have s2 := hide (Sl.of_owns ho2)
  have ho2' := hide (ownsRow_below ho1'.out hb2)
  have hb02 := hide (keepF hb01.out hb2)
  have z2 := hide hb02.out.size
  have hlen : Hid (L.length + (fx 4 (Crc.maskOf S).toNat).length ≤ 140737488355328) := by show _ ≤ _; rw [hLl.out, fx_len]; omega
  clear ho2 hb2 hb01 ho1' s1
  go_wp2_with (at_builtin; refine wpList_append_bytes rfl (.tmp 19) (.tmp 23) 31 rfl w.heap.size 5 Try.infoU8 Try.underlying31 _ _ L (fx 4 (Crc.maskOf S).toNat) rfl ho2'.out rfl s2.out hlen.out z2.out ?_)
  intro v8 w8 ho8 hb8
  have ho8' : Hid (w8.ownsRow w.heap.size 5 1 v8 F.length (bvals F)) := by
    show World.ownsRow _ _ _ _ _ _ _
    rw [← List.length_append, hF.out] at ho8
    exact ho8
  have hb08 := hide (hb02.out.trans hb8)
  clear ho8 hb8
  go_wp2_with fail
  go_ret3
  exact ⟨_, rfl, ho8'.out, hb08.out⟩
#print axioms refWH_any

def gN (l : List UInt8) : Nat := num ((l.drop 8).take 8)
def gB (l : List UInt8) : Nat := num ((l.drop 16).take 8)
def gS (l : List UInt8) : Nat := num ((l.drop 24).take 4)
def gM (l : List UInt8) : Nat := num ((l.drop 28).take 4)
/-- ReadHead's error's number. -/
def rhE (l : List UInt8) : Int :=
  if l.length < 32 then 2 else if l.take 8 ≠ ttl ∨ sg64 (gN l) < 1 ∨ sg64 (gB l) < 1 then 4 else if (Crc.maskOf (Crc.more 0#32 (l.take 28))).toNat ≠ gM l then 5 else 0
/-- What ReadHead answers: Num, Base, Seed, the sum, the error's number. -/
def rhF (l : List UInt8) : Int × Int × Crc.R × Crc.R × Int :=
  if rhE l = 0 then (sg64 (gN l), sg64 (gB l), BitVec.ofNat 32 (gS l), Crc.more 0#32 (l.take 28), 0) else (0, 0, 0#32, 0#32, rhE l)
def DoesRH (f : Nat) : Prop := ∀ (w : World) (v : Value) (l : List UInt8), Sl w v l →
  Calls Try.prog f #[v] w fun e w' => e = .returned (.tuple #[.agg #[.int .i64 (rhF l).1, .int .i64 (rhF l).2.1, .int .u32 ((rhF l).2.2.1.toNat : Int)], .int .u32 ((rhF l).2.2.2.1.toNat : Int), .int .i64 (rhF l).2.2.2.2]) ∧ Below w.heap.size w w'

/-- Three cells of a block, written. -/
def put3 (w : World) (b : Nat) (a0 a1 a2 : Value) : World := ((w.setCell ⟨b, 0, none⟩ a0).setCell ⟨b, 1, none⟩ a1).setCell ⟨b, 2, none⟩ a2
theorem put3_heap {w : World} {b : Nat} {z0 z1 z2 : Value} {T : TypeId} (h : w.heap[b]? = some (.cells #[z0, z1, z2] T (0, 0))) (a0 a1 a2 : Value) : (put3 w b a0 a1 a2).heap[b]? = some (.cells #[a0, a1, a2] T (0, 0)) := by
  unfold put3
  rw [heap_setCell_same _ _ _ _ _ _ (heap_setCell_same _ _ _ _ _ _ (heap_setCell_same _ _ _ _ _ _ h))]
  simp
theorem put3_other (w : World) (b k : Nat) (a0 a1 a2 : Value) (h : k ≠ b) : (put3 w b a0 a1 a2).heap[k]? = w.heap[k]? := by
  unfold put3
  rw [heap_setCell_other _ _ k _ h, heap_setCell_other _ _ k _ h, heap_setCell_other _ _ k _ h]
theorem put3_below {B : Nat} {u w : World} (h : Below B u w) {b : Nat} (hb : B ≤ b) (a0 a1 a2 : Value) : Below B u (put3 w b a0 a1 a2) := ((h.setCell hb a0).setCell hb a1).setCell hb a2
end Go.Proofs.Ytophaolgmpdimaa
