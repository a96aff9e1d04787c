/-
  What a frame is, by its bytes; what the program's frame.Write is made of: within, mark, frameFields, frameSum.
-/
import Derived.Test.YtebhkdaefjmbnaaFa
import Derived.Test.YtebhkdaefjmbnaaFixed
import Derived.Test.YtebhkdaefjmbnaaCrcz
namespace Go.Proofs.Ytebhkdaefjmbnaa
open Go.RowKit

theorem row_lit (w : World) (vs : List Value) (t : TypeId) (hm : vs.length ≤ maxLen) : Row (w.alloc (.cells vs.toArray t)) (.slice (some ⟨w.heap.size, 0, none⟩) vs.length vs.length) vs := by
  refine ⟨_, _, rfl, fun e => by simp at e, Nat.le_refl _, hm, fun i hi => ⟨_, _, rfl, ?_⟩⟩
  have : (w.alloc (.cells vs.toArray t)).heap[w.heap.size]? = some (.cells vs.toArray t (0, 0)) := heap_alloc_new _ _
  simp only [World.cell?, this, Nat.zero_add]
  simp [hi]
theorem Sls.nil (w : World) : Sls w [] [] := ⟨rfl, fun i h => by simp at h⟩
theorem Sls.cons {w : World} {v : Value} {l : List UInt8} {vs : List Value} {ls : List (List UInt8)} (h : Sl w v l) (hs : Sls w vs ls) : Sls w (v :: vs) (l :: ls) :=
  ⟨by simp [hs.1], fun i h1 h2 => by
    cases i with
    | zero => exact h
    | succ i => exact hs.2 i (by simpa using h1) (by simpa using h2)⟩
theorem keepF {w u v : World} (h : Below w.heap.size w u) (q : Below u.heap.size u v) : Below w.heap.size w v := h.trans (q.mono h.size)
theorem Sl.le {w : World} {v : Value} {l : List UInt8} (h : Sl w v l) : l.length ≤ maxLen := by
  obtain ⟨_, _, _, _, h3, h4, _⟩ := h; omega
/-- Owned from a block on: from a lower block on, too. -/
theorem owns_lower {w : World} {b b' e n : Nat} {v : Value} {xs : List Value} (h : w.ownsRow b e 1 v n xs) (hb : b' ≤ b) : w.ownsRow b' e 1 v n xs := by
  obtain ⟨h1, h2⟩ := h
  refine ⟨h1, ?_⟩
  rcases h2 with h2 | ⟨g, cap, cur, a, b, c⟩
  · exact Or.inl h2
  · exact Or.inr ⟨g, cap, cur, a, Nat.le_trans hb b, c⟩

/-- The fields ahead of a frame's mark. -/
def ffs (lsn n : Nat) : List UInt8 := fx 4 n ++ fx 8 lsn
/-- A frame's sum behind a seed. -/
def fsum (seed : Crc.R) (lsn : Nat) (d : List UInt8) : Crc.R := Crc.more 0#32 (fx 4 seed.toNat ++ (ffs lsn d.length ++ d))
/-- A sum's mark. -/
def fmark (s : Crc.R) : List UInt8 := fx 4 (Crc.maskOf s).toNat
/-- A frame. -/
def frm (seed : Crc.R) (lsn : Nat) (d : List UInt8) : List UInt8 := ffs lsn d.length ++ (fmark (fsum seed lsn d) ++ d)
theorem ffs_len (lsn n : Nat) : (ffs lsn n).length = 12 := by simp [ffs, fx_len]
theorem fmark_len (s : Crc.R) : (fmark s).length = 4 := by simp [fmark, fx_len]
theorem frm_len (seed : Crc.R) (lsn : Nat) (d : List UInt8) : (frm seed lsn d).length = 16 + d.length := by
  simp [frm, ffs_len, fmark_len]; omega
/-- May n be from 1 to m? -/
def inB (n m : Int) : Bool := decide (1 ≤ n) && decide (n ≤ m)

theorem within_any (w : World) (n m : Int) :
    Calls Try.prog 39 #[.int .i64 n, .int .i64 m] w fun e w' => e = .returned (.bool (inB n m)) ∧ w' = w := by
  by_cases h1 : 1 ≤ n
  · have E : Hid (inB n m = decide (n ≤ m)) := by show _ = _; simp [inB, h1]
    rw [E.out]
    go_enter Try.func39, Try.ntmps39
    go_wp2_with fail
    go_ret
    exact ⟨rfl, rfl⟩
  · have E : Hid (inB n m = false) := by show _ = _; simp [inB, h1]
    rw [E.out]
    go_enter Try.func39, Try.ntmps39
    go_wp2_with fail
    go_ret
    exact ⟨rfl, rfl⟩

set_option maxHeartbeats 400000 in
theorem frameFields_any (w : World) (lsn : Int) (n : Nat) (h0 : 1 ≤ lsn) (h1 : lsn ≤ 9223372036854775807) (hn : n ≤ 4096) :
    Calls Try.prog 42 #[.int .i64 lsn, .int .i64 (n : Int)] w fun e w' => ∃ v', e = .returned v' ∧ w'.ownsRow w.heap.size 5 1 v' (ffs lsn.toNat n).length (bvals (ffs lsn.toNat n)) ∧ Below w.heap.size w w' := by
  have HN := hide hn
  go_enter Try.func42, Try.ntmps42
  go_wp2_with fail
  refine (fixed32_any w (n : Int) (by omega) (by omega)).mono ?_
  rintro e w1 ⟨v1, rfl, ho1, hb1⟩
  rw [Int.toNat_natCast] at ho1
  have s1 := hide (Sl.of_owns ho1)
  obtain ⟨ao1, ca1, rfl⟩ : ∃ ao ca, v1 = .slice ao 4 ca := by
    obtain ⟨ao, ca, h, _⟩ := s1.out
    exact ⟨ao, ca, by rw [h, fx_len]⟩
  replace hb1 := hide hb1
  clear ho1
  go_wp2_with fail
  refine (fixed64_any w1 lsn (by omega) (by omega)).mono ?_
  rintro e w2 ⟨v2, rfl, ho2, hb2⟩
  have s2 := hide (Sl.of_owns ho2)
  obtain ⟨ao2, ca2, rfl⟩ : ∃ ao ca, v2 = .slice ao 8 ca := by
    obtain ⟨ao, ca, h, _⟩ := s2.out
    exact ⟨ao, ca, by rw [h, fx_len]⟩
  replace hb2 := hide hb2
  clear ho2
  go_wp2_with fail
  refine (concat_any (w2.alloc (.cells #[.slice ao1 4 ca1, .slice ao2 8 ca2] 22)) _ [.slice ao1 4 ca1, .slice ao2 8 ca2] [fx 4 n, fx 8 lsn.toNat] (row_lit w2 [_, _] 22 (by show 2 ≤ maxLen; decide)) (Below.sls (box_below w2 _) (.cons (Below.sl hb2.out s1.out) (.cons s2.out (.nil _)))) (by simp [fx_len])).mono ?_
  rintro e w3 ⟨v3, rfl, ho3, hb3⟩
  have hb03 : Below w.heap.size w w3 := keepF (keepF (keepF hb1.out hb2.out) (box_below w2 _)) hb3
  have ho : Hid (w3.ownsRow w.heap.size 5 1 v3 (ffs lsn.toNat n).length (bvals (ffs lsn.toNat n))) := by
    have := owns_lower ho3 (b' := w.heap.size) (by have := (keepF (keepF hb1.out hb2.out) (box_below w2 (.cells #[.slice ao1 4 ca1, .slice ao2 8 ca2] 22))).size; exact this)
    have e : [fx 4 n, fx 8 lsn.toNat].flatten = ffs lsn.toNat n := by simp [ffs]
    rw [e] at this
    exact this
  clear ho3
  go_wp2_with fail
  go_ret
  exact ⟨_, rfl, ho.out, hb03⟩
#print axioms frameFields_any
end Go.Proofs.Ytebhkdaefjmbnaa
