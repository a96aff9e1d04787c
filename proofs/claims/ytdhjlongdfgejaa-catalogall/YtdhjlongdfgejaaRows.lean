/-
  No cell of these rows narrows 'for every input' (looked for: loops, veiled, ifaces, maps, wideKeys, modest, calm, conditions, laid).
  DERIVED. THE GIVEN ROWS OF THIS SEAT. 4 by the template 'for every input the law returns true; each argument reads behind the call as it read before'; 0 by the template 'total and deterministic' (their statements: YtdhjlongdfgejaaTotals.lean).
  GIVEN WITH THE SEED: the statements are not yours to turn. If you find one false, say at which input.
  Laid BY PROGRAM, IN A SANDBOX (cutbox-rows.mjs): the forced cells as the released guide's own fill.sh prints them over the translation 7bdd329edef2acbd… (all of the seat's roots in one cut). By AI agents, Wed Nov 11 2026. No macro, syntax, notation, axiom, sorry.
-/
import Derived.Test.YtdhjlongdfgejaaChecked
import GoSem.Claim
import GoSem.ClaimJoined
import GoSem.ClaimMapViews
import Derived.JoinedTies
import Derived.KernelRfl
namespace Go.Proofs.Ytdhjlongdfgejaa
/- THE CELL 'sum', in the pinned program and in every row, IS THE sha256 OF THE DUMP (.gsa) THAT YtdhjlongdfgejaaProg.lean LOADS. Nothing in Lean hashes anything: it is a label: what it is worth is what the hold of that sum in a sandbox is worth. -/
noncomputable def Try.pinned : Pinned := { name := "ytdhjlongdfgejaa", sum := "7bdd329edef2acbdc868cbaadaf7aadc45aeb83138725a1a60ca8e9090b32118", checked := Try.checked }
namespace Rows
def none {H : Type} : Left H := { results := [], args := [] }

/-- 'flumelaw10.CatalogAll': WHATEVER THE INPUT: true; the input reads as it did. -/
def catalogAllSpec : ChangeSpec := { name := "catalogAll", fn := fun _ => fun
  | [d1, d2] => { results := [.lit (.bool true)], args := [d1, d2] }
  | _ => none }
def catalogAllRow : OpenClaim := { program := "ytdhjlongdfgejaa", sum := "7bdd329edef2acbdc868cbaadaf7aadc45aeb83138725a1a60ca8e9090b32118", func := "flume/flumelaw10.CatalogAll", spec := "catalogAll", unfollowed := true, recurses := true, apart := false }
def CatalogAllSaid : Prop := catalogAllRow.holds Try.pinned (OpenSpec.ofChange catalogAllSpec)

/-- ITS FALSE NEIGHBOUR: 'it returns false'. Refute it at one input. -/
def catalogAllWrong : ChangeSpec := { name := "catalogAll", fn := fun _ => fun
  | [d1, d2] => { results := [.lit (.bool false)], args := [d1, d2] }
  | _ => none }
def CatalogAllWrongFalsely : Prop := catalogAllRow.holds Try.pinned (OpenSpec.ofChange catalogAllWrong)

/-- 'flumelaw10.CatalogReads': WHATEVER THE INPUT: true; the input reads as it did. -/
def catalogReadsSpec : ChangeSpec := { name := "catalogReads", fn := fun _ => fun
  | [d] => { results := [.lit (.bool true)], args := [d] }
  | _ => none }
def catalogReadsRow : OpenClaim := { program := "ytdhjlongdfgejaa", sum := "7bdd329edef2acbdc868cbaadaf7aadc45aeb83138725a1a60ca8e9090b32118", func := "flume/flumelaw10.CatalogReads", spec := "catalogReads", unfollowed := true, recurses := true, apart := false }
def CatalogReadsSaid : Prop := catalogReadsRow.holds Try.pinned (OpenSpec.ofChange catalogReadsSpec)

/-- ITS FALSE NEIGHBOUR: 'it returns false'. Refute it at one input. -/
def catalogReadsWrong : ChangeSpec := { name := "catalogReads", fn := fun _ => fun
  | [d] => { results := [.lit (.bool false)], args := [d] }
  | _ => none }
def CatalogReadsWrongFalsely : Prop := catalogReadsRow.holds Try.pinned (OpenSpec.ofChange catalogReadsWrong)

/-- 'flumelaw10.CatalogRuns': WHATEVER THE INPUT: true; the input reads as it did. -/
def catalogRunsSpec : ChangeSpec := { name := "catalogRuns", fn := fun _ => fun
  | [d1, d2] => { results := [.lit (.bool true)], args := [d1, d2] }
  | _ => none }
def catalogRunsRow : OpenClaim := { program := "ytdhjlongdfgejaa", sum := "7bdd329edef2acbdc868cbaadaf7aadc45aeb83138725a1a60ca8e9090b32118", func := "flume/flumelaw10.CatalogRuns", spec := "catalogRuns", unfollowed := true, recurses := true, apart := false }
def CatalogRunsSaid : Prop := catalogRunsRow.holds Try.pinned (OpenSpec.ofChange catalogRunsSpec)

/-- ITS FALSE NEIGHBOUR: 'it returns false'. Refute it at one input. -/
def catalogRunsWrong : ChangeSpec := { name := "catalogRuns", fn := fun _ => fun
  | [d1, d2] => { results := [.lit (.bool false)], args := [d1, d2] }
  | _ => none }
def CatalogRunsWrongFalsely : Prop := catalogRunsRow.holds Try.pinned (OpenSpec.ofChange catalogRunsWrong)

/-- 'flumelaw10.CatalogAts': WHATEVER THE INPUT: true; the input reads as it did. -/
def catalogAtsSpec : ChangeSpec := { name := "catalogAts", fn := fun _ => fun
  | [d1, d2] => { results := [.lit (.bool true)], args := [d1, d2] }
  | _ => none }
def catalogAtsRow : OpenClaim := { program := "ytdhjlongdfgejaa", sum := "7bdd329edef2acbdc868cbaadaf7aadc45aeb83138725a1a60ca8e9090b32118", func := "flume/flumelaw10.CatalogAts", spec := "catalogAts", unfollowed := true, recurses := true, apart := false }
def CatalogAtsSaid : Prop := catalogAtsRow.holds Try.pinned (OpenSpec.ofChange catalogAtsSpec)

/-- ITS FALSE NEIGHBOUR: 'it returns false'. Refute it at one input. -/
def catalogAtsWrong : ChangeSpec := { name := "catalogAts", fn := fun _ => fun
  | [d1, d2] => { results := [.lit (.bool false)], args := [d1, d2] }
  | _ => none }
def CatalogAtsWrongFalsely : Prop := catalogAtsRow.holds Try.pinned (OpenSpec.ofChange catalogAtsWrong)

/- THE SECOND FORM. 'bulk': how many values and letters a reading holds, each counted each time it is reached (what is shared counts as often as it is met; a slice's spare places count too). A statement '..UptoSaid' is the law's where the arguments, and the package variables that the reading takes, are together of bulk at most 1048576: NARROWER than '..Said'. Prove '..Said' where nothing that the law and all that it calls make is longer than what came in: it says more and counts as full. Else prove '..UptoSaid'. A law counts once. -/
mutual
def uptoBulk {H : Type} : DataW H → Nat
  | .lit (.string bytes) => bytes.length + 1
  | .lit _ => 1
  | .nil => 1
  | .ptr d => uptoBulk d + 1
  | .slice elems spare => uptoBulkAll elems + uptoBulkAll spare + 1
  | .agg parts => uptoBulkAll parts + 1
  | .iface _ d => uptoBulk d + 1
  | .map entries => uptoBulkEntries entries + 1
  | .held _ => 1
def uptoBulkAll {H : Type} : List (DataW H) → Nat
  | [] => 0
  | d :: r => uptoBulk d + uptoBulkAll r
def uptoBulkEntries {H : Type} : List (Lit × DataW H) → Nat
  | [] => 0
  | x :: r => uptoBulkEntry x + uptoBulkEntries r
def uptoBulkEntry {H : Type} : Lit × DataW H → Nat
  | (.string bytes, d) => bytes.length + uptoBulk d + 1
  | (_, d) => uptoBulk d + 1
 end
def uptoSmall : (H : Type) → List (DataW H) → Bool := fun _ ds => decide (uptoBulkAll ds ≤ 1048576)
def OpenSpec.upto (s : _root_.Go.ChangeSpec) : _root_.Go.OpenSpec := { _root_.Go.OpenSpec.ofChange s with cond := some uptoSmall }

/-- 'flumelaw10.CatalogAll', WHERE WHAT IT READS IS OF BULK AT MOST 1048576: true; the input reads as it did. -/
def catalogAllUptoRow : OpenClaim := { program := "ytdhjlongdfgejaa", sum := "7bdd329edef2acbdc868cbaadaf7aadc45aeb83138725a1a60ca8e9090b32118", func := "flume/flumelaw10.CatalogAll", spec := "catalogAll", unfollowed := true, recurses := true, apart := false, narrowed := true }
def CatalogAllUptoSaid : Prop := catalogAllUptoRow.holds Try.pinned (OpenSpec.upto catalogAllSpec)

/-- 'flumelaw10.CatalogReads', WHERE WHAT IT READS IS OF BULK AT MOST 1048576: true; the input reads as it did. -/
def catalogReadsUptoRow : OpenClaim := { program := "ytdhjlongdfgejaa", sum := "7bdd329edef2acbdc868cbaadaf7aadc45aeb83138725a1a60ca8e9090b32118", func := "flume/flumelaw10.CatalogReads", spec := "catalogReads", unfollowed := true, recurses := true, apart := false, narrowed := true }
def CatalogReadsUptoSaid : Prop := catalogReadsUptoRow.holds Try.pinned (OpenSpec.upto catalogReadsSpec)

/-- 'flumelaw10.CatalogRuns', WHERE WHAT IT READS IS OF BULK AT MOST 1048576: true; the input reads as it did. -/
def catalogRunsUptoRow : OpenClaim := { program := "ytdhjlongdfgejaa", sum := "7bdd329edef2acbdc868cbaadaf7aadc45aeb83138725a1a60ca8e9090b32118", func := "flume/flumelaw10.CatalogRuns", spec := "catalogRuns", unfollowed := true, recurses := true, apart := false, narrowed := true }
def CatalogRunsUptoSaid : Prop := catalogRunsUptoRow.holds Try.pinned (OpenSpec.upto catalogRunsSpec)

/-- 'flumelaw10.CatalogAts', WHERE WHAT IT READS IS OF BULK AT MOST 1048576: true; the input reads as it did. -/
def catalogAtsUptoRow : OpenClaim := { program := "ytdhjlongdfgejaa", sum := "7bdd329edef2acbdc868cbaadaf7aadc45aeb83138725a1a60ca8e9090b32118", func := "flume/flumelaw10.CatalogAts", spec := "catalogAts", unfollowed := true, recurses := true, apart := false, narrowed := true }
def CatalogAtsUptoSaid : Prop := catalogAtsUptoRow.holds Try.pinned (OpenSpec.upto catalogAtsSpec)

end Rows
end Go.Proofs.Ytdhjlongdfgejaa
