/-
  What frame.frameSum, Write, Size answer.
-/
import Derived.Test.YtdhjlongdfgejaaFb
namespace Go.Proofs.Ytdhjlongdfgejaa
open Go.RowKit

theorem Sl.form {w : World} {v : Value} {l : List UInt8} {n : Nat} (h : Sl w v l) (hn : l.length = n) : ∃ ao ca, v = .slice ao n ca := by
  obtain ⟨ao, ca, h, _⟩ := h
  exact ⟨ao, ca, by rw [h, hn]⟩

/-- What Write answers: the bytes, the sum, the error's number. -/
def wrF (seed : Crc.R) (lsn : Int) (d : List UInt8) : List UInt8 × Crc.R × Int :=
  if inB lsn 9223372036854775806 = false then ([], 0#32, 1) else if 4096 < d.length then ([], 0#32, 3) else (frm seed lsn.toNat d, fsum seed lsn.toNat d, 0)
/-- What a function that writes frames owes. -/
def DoesWrite (f : Nat) : Prop := ∀ (w : World) (seed : Crc.R) (lsn : Int) (v : Value) (d : List UInt8), -9223372036854775808 ≤ lsn → lsn ≤ 9223372036854775807 → Sl w v d →
  Calls Try.prog f #[.int .u32 (seed.toNat : Int), .int .i64 lsn, v] w fun e w' => ∃ v', e = .returned (.tuple #[v', .int .u32 ((wrF seed lsn d).2.1.toNat : Int), .int .i64 (wrF seed lsn d).2.2]) ∧ w'.ownsRow w.heap.size 5 1 v' (wrF seed lsn d).1.length (bvals (wrF seed lsn d).1) ∧ Below w.heap.size w w'

def szF (n : Int) : Int := if 0 ≤ n ∧ n ≤ 4096 then 16 + n else 0
end Go.Proofs.Ytdhjlongdfgejaa
