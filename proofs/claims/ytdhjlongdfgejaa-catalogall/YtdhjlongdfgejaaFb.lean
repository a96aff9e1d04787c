/-
  What a frame is, by its bytes; what the program's frame.Write is made of: within, mark, frameFields, frameSum.
-/
import Derived.Test.YtdhjlongdfgejaaFa
import Derived.Test.YtdhjlongdfgejaaFixed
import Derived.Test.YtdhjlongdfgejaaCrcz
namespace Go.Proofs.Ytdhjlongdfgejaa
open Go.RowKit

theorem row_lit (w : World) (vs : List Value) (t : TypeId) (hm : vs.length ≤ maxLen) : Row (w.alloc (.cells vs.toArray t)) (.slice (some ⟨w.heap.size, 0, none⟩) vs.length vs.length) vs := by
  refine ⟨_, _, rfl, fun e => by simp at e, Nat.le_refl _, hm, fun i hi => ⟨_, _, rfl, ?_⟩⟩
  have : (w.alloc (.cells vs.toArray t)).heap[w.heap.size]? = some (.cells vs.toArray t (0, 0)) := heap_alloc_new _ _
  simp only [World.cell?, this, Nat.zero_add]
  simp [hi]
theorem Sls.nil (w : World) : Sls w [] [] := ⟨rfl, fun i h => by simp at h⟩
theorem Sls.cons {w : World} {v : Value} {l : List UInt8} {vs : List Value} {ls : List (List UInt8)} (h : Sl w v l) (hs : Sls w vs ls) : Sls w (v :: vs) (l :: ls) :=
  ⟨by simp [hs.1], fun i h1 h2 => by
    cases i with
    | zero => exact h
    | succ i => exact hs.2 i (by simpa using h1) (by simpa using h2)⟩
theorem keepF {w u v : World} (h : Below w.heap.size w u) (q : Below u.heap.size u v) : Below w.heap.size w v := h.trans (q.mono h.size)
theorem Sl.le {w : World} {v : Value} {l : List UInt8} (h : Sl w v l) : l.length ≤ maxLen := by
  obtain ⟨_, _, _, _, h3, h4, _⟩ := h; omega
/-- Owned from a block on: from a lower block on, too. -/
theorem owns_lower {w : World} {b b' e n : Nat} {v : Value} {xs : List Value} (h : w.ownsRow b e 1 v n xs) (hb : b' ≤ b) : w.ownsRow b' e 1 v n xs := by
  obtain ⟨h1, h2⟩ := h
  refine ⟨h1, ?_⟩
  rcases h2 with h2 | ⟨g, cap, cur, a, b, c⟩
  · exact Or.inl h2
  · exact Or.inr ⟨g, cap, cur, a, Nat.le_trans hb b, c⟩

/-- The fields ahead of a frame's mark. -/
def ffs (lsn n : Nat) : List UInt8 := fx 4 n ++ fx 8 lsn
/-- A frame's sum behind a seed. -/
def fsum (seed : Crc.R) (lsn : Nat) (d : List UInt8) : Crc.R := Crc.more 0#32 (fx 4 seed.toNat ++ (ffs lsn d.length ++ d))
/-- A sum's mark. -/
def fmark (s : Crc.R) : List UInt8 := fx 4 (Crc.maskOf s).toNat
/-- A frame. -/
def frm (seed : Crc.R) (lsn : Nat) (d : List UInt8) : List UInt8 := ffs lsn d.length ++ (fmark (fsum seed lsn d) ++ d)
theorem ffs_len (lsn n : Nat) : (ffs lsn n).length = 12 := by simp [ffs, fx_len]
theorem fmark_len (s : Crc.R) : (fmark s).length = 4 := by simp [fmark, fx_len]
theorem frm_len (seed : Crc.R) (lsn : Nat) (d : List UInt8) : (frm seed lsn d).length = 16 + d.length := by
  simp [frm, ffs_len, fmark_len]; omega
/-- May n be from 1 to m? -/
def inB (n m : Int) : Bool := decide (1 ≤ n) && decide (n ≤ m)

end Go.Proofs.Ytdhjlongdfgejaa
