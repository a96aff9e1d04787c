/-
  No cell of these rows narrows 'for every input' (looked for: loops, veiled, ifaces, maps, wideKeys, modest, calm, conditions, laid).
  DERIVED. THE GIVEN ROWS OF THIS SEAT. 5 by the template 'for every input the law returns true; each argument reads behind the call as it read before'; 0 by the template 'total and deterministic' (their statements: YtjehpijjneghpaaGreatTotals.lean).
  GIVEN WITH THE SEED: the statements are not yours to turn. If you find one false, say at which input.
  Laid BY PROGRAM, IN A SANDBOX (cutbox-rows.mjs): the forced cells as the released guide's own fill.sh prints them over the translation d4aed3704d72b836… (all of the seat's roots in one cut). By AI agents, Wed Nov 11 2026. No macro, syntax, notation, axiom, sorry.
-/
import Derived.Test.YtjehpijjneghpaaGreatChecked
import GoSem.Claim
import GoSem.ClaimJoined
import GoSem.ClaimMapViews
import Derived.JoinedTies
import Derived.KernelRfl
namespace Go.Proofs.YtjehpijjneghpaaGreat
/- THE CELL 'sum', in the pinned program and in every row, IS THE sha256 OF THE DUMP (.gsa) THAT YtjehpijjneghpaaGreatProg.lean LOADS. Nothing in Lean hashes anything: it is a label: what it is worth is what the hold of that sum in a sandbox is worth. -/
noncomputable def Tryz.pinned : Pinned := { name := "ytjehpijjneghpaagreat", sum := "d4aed3704d72b836d6e816969479b33712bccb84f5b6e48383c525ca3cf7d1e2", checked := Tryz.checked }
namespace Rows
def none {H : Type} : Left H := { results := [], args := [] }

/-- 'flumelaw11.DiskAll': WHATEVER THE INPUT: true; the input reads as it did. -/
def diskAllSpec : ChangeSpec := { name := "diskAll", fn := fun _ => fun
  | [d1, d2, d3] => { results := [.lit (.bool true)], args := [d1, d2, d3] }
  | _ => none }
def diskAllRow : OpenClaim := { program := "ytjehpijjneghpaagreat", sum := "d4aed3704d72b836d6e816969479b33712bccb84f5b6e48383c525ca3cf7d1e2", func := "flume/flumelaw11.DiskAll", spec := "diskAll", inPlace := ["maps.clone"], unfollowed := true, recurses := true, apart := false }
def DiskAllSaid : Prop := diskAllRow.holds Tryz.pinned (OpenSpec.ofChange diskAllSpec)

/-- ITS FALSE NEIGHBOUR: 'it returns false'. Refute it at one input. -/
def diskAllWrong : ChangeSpec := { name := "diskAll", fn := fun _ => fun
  | [d1, d2, d3] => { results := [.lit (.bool false)], args := [d1, d2, d3] }
  | _ => none }
def DiskAllWrongFalsely : Prop := diskAllRow.holds Tryz.pinned (OpenSpec.ofChange diskAllWrong)

/-- 'flumelaw11.DiskKeeps': WHATEVER THE INPUT: true; the input reads as it did. -/
def diskKeepsSpec : ChangeSpec := { name := "diskKeeps", fn := fun _ => fun
  | [d1, d2, d3, d4] => { results := [.lit (.bool true)], args := [d1, d2, d3, d4] }
  | _ => none }
def diskKeepsRow : OpenClaim := { program := "ytjehpijjneghpaagreat", sum := "d4aed3704d72b836d6e816969479b33712bccb84f5b6e48383c525ca3cf7d1e2", func := "flume/flumelaw11.DiskKeeps", spec := "diskKeeps", inPlace := ["maps.clone"], unfollowed := true, recurses := true, apart := false }
def DiskKeepsSaid : Prop := diskKeepsRow.holds Tryz.pinned (OpenSpec.ofChange diskKeepsSpec)

/-- ITS FALSE NEIGHBOUR: 'it returns false'. Refute it at one input. -/
def diskKeepsWrong : ChangeSpec := { name := "diskKeeps", fn := fun _ => fun
  | [d1, d2, d3, d4] => { results := [.lit (.bool false)], args := [d1, d2, d3, d4] }
  | _ => none }
def DiskKeepsWrongFalsely : Prop := diskKeepsRow.holds Tryz.pinned (OpenSpec.ofChange diskKeepsWrong)

/-- 'flumelaw11.DiskApart': WHATEVER THE INPUT: true; the input reads as it did. -/
def diskApartSpec : ChangeSpec := { name := "diskApart", fn := fun _ => fun
  | [d] => { results := [.lit (.bool true)], args := [d] }
  | _ => none }
def diskApartRow : OpenClaim := { program := "ytjehpijjneghpaagreat", sum := "d4aed3704d72b836d6e816969479b33712bccb84f5b6e48383c525ca3cf7d1e2", func := "flume/flumelaw11.DiskApart", spec := "diskApart", inPlace := ["maps.clone"], unfollowed := true, recurses := true, apart := false }
def DiskApartSaid : Prop := diskApartRow.holds Tryz.pinned (OpenSpec.ofChange diskApartSpec)

/-- ITS FALSE NEIGHBOUR: 'it returns false'. Refute it at one input. -/
def diskApartWrong : ChangeSpec := { name := "diskApart", fn := fun _ => fun
  | [d] => { results := [.lit (.bool false)], args := [d] }
  | _ => none }
def DiskApartWrongFalsely : Prop := diskApartRow.holds Tryz.pinned (OpenSpec.ofChange diskApartWrong)

/-- 'flumelaw12.CrashAll': WHATEVER THE INPUT: true; the input reads as it did. -/
def crashAllSpec : ChangeSpec := { name := "crashAll", fn := fun _ => fun
  | [d1, d2, d3] => { results := [.lit (.bool true)], args := [d1, d2, d3] }
  | _ => none }
def crashAllRow : OpenClaim := { program := "ytjehpijjneghpaagreat", sum := "d4aed3704d72b836d6e816969479b33712bccb84f5b6e48383c525ca3cf7d1e2", func := "flume/flumelaw12.CrashAll", spec := "crashAll", inPlace := ["maps.clone"], unfollowed := true, recurses := true, apart := false }
def CrashAllSaid : Prop := crashAllRow.holds Tryz.pinned (OpenSpec.ofChange crashAllSpec)

/-- ITS FALSE NEIGHBOUR: 'it returns false'. Refute it at one input. -/
def crashAllWrong : ChangeSpec := { name := "crashAll", fn := fun _ => fun
  | [d1, d2, d3] => { results := [.lit (.bool false)], args := [d1, d2, d3] }
  | _ => none }
def CrashAllWrongFalsely : Prop := crashAllRow.holds Tryz.pinned (OpenSpec.ofChange crashAllWrong)

/-- 'flumelaw12.CrashBack': WHATEVER THE INPUT: true; the input reads as it did. -/
def crashBackSpec : ChangeSpec := { name := "crashBack", fn := fun _ => fun
  | [d1, d2, d3, d4] => { results := [.lit (.bool true)], args := [d1, d2, d3, d4] }
  | _ => none }
def crashBackRow : OpenClaim := { program := "ytjehpijjneghpaagreat", sum := "d4aed3704d72b836d6e816969479b33712bccb84f5b6e48383c525ca3cf7d1e2", func := "flume/flumelaw12.CrashBack", spec := "crashBack", inPlace := ["maps.clone"], unfollowed := true, recurses := true, apart := false }
def CrashBackSaid : Prop := crashBackRow.holds Tryz.pinned (OpenSpec.ofChange crashBackSpec)

/-- ITS FALSE NEIGHBOUR: 'it returns false'. Refute it at one input. -/
def crashBackWrong : ChangeSpec := { name := "crashBack", fn := fun _ => fun
  | [d1, d2, d3, d4] => { results := [.lit (.bool false)], args := [d1, d2, d3, d4] }
  | _ => none }
def CrashBackWrongFalsely : Prop := crashBackRow.holds Tryz.pinned (OpenSpec.ofChange crashBackWrong)

/- THE SECOND FORM. 'bulk': how many values and letters a reading holds, each counted each time it is reached (what is shared counts as often as it is met; a slice's spare places count too). A statement '..UptoSaid' is the law's where the arguments, and the package variables that the reading takes, are together of bulk at most 1048576: NARROWER than '..Said'. Prove '..Said' where nothing that the law and all that it calls make is longer than what came in: it says more and counts as full. Else prove '..UptoSaid'. A law counts once. -/
mutual
def uptoBulk {H : Type} : DataW H → Nat
  | .lit (.string bytes) => bytes.length + 1
  | .lit _ => 1
  | .nil => 1
  | .ptr d => uptoBulk d + 1
  | .slice elems spare => uptoBulkAll elems + uptoBulkAll spare + 1
  | .agg parts => uptoBulkAll parts + 1
  | .iface _ d => uptoBulk d + 1
  | .map entries => uptoBulkEntries entries + 1
  | .held _ => 1
def uptoBulkAll {H : Type} : List (DataW H) → Nat
  | [] => 0
  | d :: r => uptoBulk d + uptoBulkAll r
def uptoBulkEntries {H : Type} : List (Lit × DataW H) → Nat
  | [] => 0
  | x :: r => uptoBulkEntry x + uptoBulkEntries r
def uptoBulkEntry {H : Type} : Lit × DataW H → Nat
  | (.string bytes, d) => bytes.length + uptoBulk d + 1
  | (_, d) => uptoBulk d + 1
 end
def uptoSmall : (H : Type) → List (DataW H) → Bool := fun _ ds => decide (uptoBulkAll ds ≤ 1048576)
def OpenSpec.upto (s : _root_.Go.ChangeSpec) : _root_.Go.OpenSpec := { _root_.Go.OpenSpec.ofChange s with cond := some uptoSmall }

/-- 'flumelaw11.DiskAll', WHERE WHAT IT READS IS OF BULK AT MOST 1048576: true; the input reads as it did. -/
def diskAllUptoRow : OpenClaim := { program := "ytjehpijjneghpaagreat", sum := "d4aed3704d72b836d6e816969479b33712bccb84f5b6e48383c525ca3cf7d1e2", func := "flume/flumelaw11.DiskAll", spec := "diskAll", inPlace := ["maps.clone"], unfollowed := true, recurses := true, apart := false, narrowed := true }
def DiskAllUptoSaid : Prop := diskAllUptoRow.holds Tryz.pinned (OpenSpec.upto diskAllSpec)

/-- 'flumelaw11.DiskKeeps', WHERE WHAT IT READS IS OF BULK AT MOST 1048576: true; the input reads as it did. -/
def diskKeepsUptoRow : OpenClaim := { program := "ytjehpijjneghpaagreat", sum := "d4aed3704d72b836d6e816969479b33712bccb84f5b6e48383c525ca3cf7d1e2", func := "flume/flumelaw11.DiskKeeps", spec := "diskKeeps", inPlace := ["maps.clone"], unfollowed := true, recurses := true, apart := false, narrowed := true }
def DiskKeepsUptoSaid : Prop := diskKeepsUptoRow.holds Tryz.pinned (OpenSpec.upto diskKeepsSpec)

/-- 'flumelaw11.DiskApart', WHERE WHAT IT READS IS OF BULK AT MOST 1048576: true; the input reads as it did. -/
def diskApartUptoRow : OpenClaim := { program := "ytjehpijjneghpaagreat", sum := "d4aed3704d72b836d6e816969479b33712bccb84f5b6e48383c525ca3cf7d1e2", func := "flume/flumelaw11.DiskApart", spec := "diskApart", inPlace := ["maps.clone"], unfollowed := true, recurses := true, apart := false, narrowed := true }
def DiskApartUptoSaid : Prop := diskApartUptoRow.holds Tryz.pinned (OpenSpec.upto diskApartSpec)

/-- 'flumelaw12.CrashAll', WHERE WHAT IT READS IS OF BULK AT MOST 1048576: true; the input reads as it did. -/
def crashAllUptoRow : OpenClaim := { program := "ytjehpijjneghpaagreat", sum := "d4aed3704d72b836d6e816969479b33712bccb84f5b6e48383c525ca3cf7d1e2", func := "flume/flumelaw12.CrashAll", spec := "crashAll", inPlace := ["maps.clone"], unfollowed := true, recurses := true, apart := false, narrowed := true }
def CrashAllUptoSaid : Prop := crashAllUptoRow.holds Tryz.pinned (OpenSpec.upto crashAllSpec)

/-- 'flumelaw12.CrashBack', WHERE WHAT IT READS IS OF BULK AT MOST 1048576: true; the input reads as it did. -/
def crashBackUptoRow : OpenClaim := { program := "ytjehpijjneghpaagreat", sum := "d4aed3704d72b836d6e816969479b33712bccb84f5b6e48383c525ca3cf7d1e2", func := "flume/flumelaw12.CrashBack", spec := "crashBack", inPlace := ["maps.clone"], unfollowed := true, recurses := true, apart := false, narrowed := true }
def CrashBackUptoSaid : Prop := crashBackUptoRow.holds Tryz.pinned (OpenSpec.upto crashBackSpec)

end Rows
end Go.Proofs.YtjehpijjneghpaaGreat
