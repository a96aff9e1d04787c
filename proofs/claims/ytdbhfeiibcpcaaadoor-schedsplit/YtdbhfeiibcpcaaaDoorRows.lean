/-
  NARROWER THAN 'FOR EVERY INPUT', by the rows' own cells (each row's printed sentence says how): SchedAll: laid · SchedSplit: laid · SchedLocks: laid · SchedQueues: laid · SchedConds: laid · SchedGuards: laid.
  DERIVED. THE GIVEN ROWS OF THIS SEAT. 6 by the template 'for every input the law returns true; each argument reads behind the call as it read before'; 0 by the template 'total and deterministic' (their statements: YtdbhfeiibcpcaaaDoorTotals.lean).
  GIVEN WITH THE SEED: the statements are not yours to turn. If you find one false, say at which input.
  Laid BY PROGRAM, IN A SANDBOX (cutbox-rows.mjs): the forced cells as the released guide's own fill.sh prints them over the translation 70999df0ef1eb122… (all of the seat's roots in one cut). By AI agents, Wed Nov 11 2026. No macro, syntax, notation, axiom, sorry.
-/
import Derived.Test.YtdbhfeiibcpcaaaDoorChecked
import GoSem.Claim
import GoSem.ClaimJoined
import GoSem.ClaimMapViews
import Derived.JoinedTies
import Derived.KernelRfl
namespace Go.Proofs.YtdbhfeiibcpcaaaDoor
/- THE CELL 'sum', in the pinned program and in every row, IS THE sha256 OF THE DUMP (.gsa) THAT YtdbhfeiibcpcaaaDoorProg.lean LOADS. Nothing in Lean hashes anything: it is a label: what it is worth is what the hold of that sum in a sandbox is worth. -/
noncomputable def Tryd.pinned : Pinned := { name := "ytdbhfeiibcpcaaadoor", sum := "70999df0ef1eb12241e3551cd9f0f748110f0e57f441f15c329f0ccae91ca3ce", checked := Tryd.checked }
namespace Rows
def none {H : Type} : Left H := { results := [], args := [] }

/- WHAT THE LISTED PACKAGE-LEVEL VARIABLES READ AS WHEN THE CALL BEGINS. Each datum BY PROGRAM (the guide's laid-datum.mjs) off the statement by which the dump's own 'gosem.cut.vars' lays the variable. In a bare row this is a premise. The card (YtdbhfeiibcpcaaaDoorCards.lean) ties it to the program's text. -/
def laid_flume_sched_reaches {H : Type} : DataW H := .agg [.agg [.lit (.int .i64 0), .lit (.int .i64 0)], .agg [.lit (.int .i64 4), .lit (.int .i64 1)], .agg [.lit (.int .i64 4), .lit (.int .i64 1)], .agg [.lit (.int .i64 4), .lit (.int .i64 4)], .agg [.lit (.int .i64 4), .lit (.int .i64 1)], .agg [.lit (.int .i64 4), .lit (.int .i64 1)], .agg [.lit (.int .i64 4), .lit (.int .i64 1)], .agg [.lit (.int .i64 4), .lit (.int .i64 8)], .agg [.lit (.int .i64 8), .lit (.int .i64 1)], .agg [.lit (.int .i64 8), .lit (.int .i64 8)], .agg [.lit (.int .i64 8), .lit (.int .i64 1)], .agg [.lit (.int .i64 1), .lit (.int .i64 1)], .agg [.lit (.int .i64 1), .lit (.int .i64 1)], .agg [.lit (.int .i64 1), .lit (.int .i64 1)]]

/-- 'flumelaw20.SchedAll': WHATEVER THE INPUT: true; the input reads as it did. -/
def schedAllSpec : ChangeSpec := { name := "schedAll", fn := fun _ => fun
  | [d1, d2, d3, d4] => { results := [.lit (.bool true)], args := [d1, d2, d3, d4] }
  | _ => none }
def schedAllRow : OpenClaim := { program := "ytdbhfeiibcpcaaadoor", sum := "70999df0ef1eb12241e3551cd9f0f748110f0e57f441f15c329f0ccae91ca3ce", func := "flume/flumelaw20.SchedAll", spec := "schedAll", unfollowed := true, recurses := true, named := ["flume/sched.reaches"], apart := false, laid := [("flume/sched.reaches", laid_flume_sched_reaches)] }
def SchedAllSaid : Prop := schedAllRow.holds Tryd.pinned (OpenSpec.ofChange schedAllSpec)

/-- ITS FALSE NEIGHBOUR: 'it returns false'. Refute it at one input. -/
def schedAllWrong : ChangeSpec := { name := "schedAll", fn := fun _ => fun
  | [d1, d2, d3, d4] => { results := [.lit (.bool false)], args := [d1, d2, d3, d4] }
  | _ => none }
def SchedAllWrongFalsely : Prop := schedAllRow.holds Tryd.pinned (OpenSpec.ofChange schedAllWrong)

/-- 'flumelaw20.SchedSplit': WHATEVER THE INPUT: true; the input reads as it did. -/
def schedSplitSpec : ChangeSpec := { name := "schedSplit", fn := fun _ => fun
  | [d1, d2, d3, d4, d5] => { results := [.lit (.bool true)], args := [d1, d2, d3, d4, d5] }
  | _ => none }
def schedSplitRow : OpenClaim := { program := "ytdbhfeiibcpcaaadoor", sum := "70999df0ef1eb12241e3551cd9f0f748110f0e57f441f15c329f0ccae91ca3ce", func := "flume/flumelaw20.SchedSplit", spec := "schedSplit", unfollowed := true, recurses := true, named := ["flume/sched.reaches"], apart := false, laid := [("flume/sched.reaches", laid_flume_sched_reaches)] }
def SchedSplitSaid : Prop := schedSplitRow.holds Tryd.pinned (OpenSpec.ofChange schedSplitSpec)

/-- ITS FALSE NEIGHBOUR: 'it returns false'. Refute it at one input. -/
def schedSplitWrong : ChangeSpec := { name := "schedSplit", fn := fun _ => fun
  | [d1, d2, d3, d4, d5] => { results := [.lit (.bool false)], args := [d1, d2, d3, d4, d5] }
  | _ => none }
def SchedSplitWrongFalsely : Prop := schedSplitRow.holds Tryd.pinned (OpenSpec.ofChange schedSplitWrong)

/-- 'flumelaw20.SchedLocks': WHATEVER THE INPUT: true; the input reads as it did. -/
def schedLocksSpec : ChangeSpec := { name := "schedLocks", fn := fun _ => fun
  | [d1, d2, d3, d4] => { results := [.lit (.bool true)], args := [d1, d2, d3, d4] }
  | _ => none }
def schedLocksRow : OpenClaim := { program := "ytdbhfeiibcpcaaadoor", sum := "70999df0ef1eb12241e3551cd9f0f748110f0e57f441f15c329f0ccae91ca3ce", func := "flume/flumelaw20.SchedLocks", spec := "schedLocks", unfollowed := true, recurses := true, named := ["flume/sched.reaches"], apart := false, laid := [("flume/sched.reaches", laid_flume_sched_reaches)] }
def SchedLocksSaid : Prop := schedLocksRow.holds Tryd.pinned (OpenSpec.ofChange schedLocksSpec)

/-- ITS FALSE NEIGHBOUR: 'it returns false'. Refute it at one input. -/
def schedLocksWrong : ChangeSpec := { name := "schedLocks", fn := fun _ => fun
  | [d1, d2, d3, d4] => { results := [.lit (.bool false)], args := [d1, d2, d3, d4] }
  | _ => none }
def SchedLocksWrongFalsely : Prop := schedLocksRow.holds Tryd.pinned (OpenSpec.ofChange schedLocksWrong)

/-- 'flumelaw20.SchedQueues': WHATEVER THE INPUT: true; the input reads as it did. -/
def schedQueuesSpec : ChangeSpec := { name := "schedQueues", fn := fun _ => fun
  | [d1, d2, d3] => { results := [.lit (.bool true)], args := [d1, d2, d3] }
  | _ => none }
def schedQueuesRow : OpenClaim := { program := "ytdbhfeiibcpcaaadoor", sum := "70999df0ef1eb12241e3551cd9f0f748110f0e57f441f15c329f0ccae91ca3ce", func := "flume/flumelaw20.SchedQueues", spec := "schedQueues", unfollowed := true, recurses := true, named := ["flume/sched.reaches"], apart := false, laid := [("flume/sched.reaches", laid_flume_sched_reaches)] }
def SchedQueuesSaid : Prop := schedQueuesRow.holds Tryd.pinned (OpenSpec.ofChange schedQueuesSpec)

/-- ITS FALSE NEIGHBOUR: 'it returns false'. Refute it at one input. -/
def schedQueuesWrong : ChangeSpec := { name := "schedQueues", fn := fun _ => fun
  | [d1, d2, d3] => { results := [.lit (.bool false)], args := [d1, d2, d3] }
  | _ => none }
def SchedQueuesWrongFalsely : Prop := schedQueuesRow.holds Tryd.pinned (OpenSpec.ofChange schedQueuesWrong)

/-- 'flumelaw20.SchedConds': WHATEVER THE INPUT: true; the input reads as it did. -/
def schedCondsSpec : ChangeSpec := { name := "schedConds", fn := fun _ => fun
  | [d1, d2, d3] => { results := [.lit (.bool true)], args := [d1, d2, d3] }
  | _ => none }
def schedCondsRow : OpenClaim := { program := "ytdbhfeiibcpcaaadoor", sum := "70999df0ef1eb12241e3551cd9f0f748110f0e57f441f15c329f0ccae91ca3ce", func := "flume/flumelaw20.SchedConds", spec := "schedConds", unfollowed := true, recurses := true, named := ["flume/sched.reaches"], apart := false, laid := [("flume/sched.reaches", laid_flume_sched_reaches)] }
def SchedCondsSaid : Prop := schedCondsRow.holds Tryd.pinned (OpenSpec.ofChange schedCondsSpec)

/-- ITS FALSE NEIGHBOUR: 'it returns false'. Refute it at one input. -/
def schedCondsWrong : ChangeSpec := { name := "schedConds", fn := fun _ => fun
  | [d1, d2, d3] => { results := [.lit (.bool false)], args := [d1, d2, d3] }
  | _ => none }
def SchedCondsWrongFalsely : Prop := schedCondsRow.holds Tryd.pinned (OpenSpec.ofChange schedCondsWrong)

/-- 'flumelaw20.SchedGuards': WHATEVER THE INPUT: true; the input reads as it did. -/
def schedGuardsSpec : ChangeSpec := { name := "schedGuards", fn := fun _ => fun
  | [d1, d2] => { results := [.lit (.bool true)], args := [d1, d2] }
  | _ => none }
def schedGuardsRow : OpenClaim := { program := "ytdbhfeiibcpcaaadoor", sum := "70999df0ef1eb12241e3551cd9f0f748110f0e57f441f15c329f0ccae91ca3ce", func := "flume/flumelaw20.SchedGuards", spec := "schedGuards", unfollowed := true, recurses := true, named := ["flume/sched.reaches"], apart := false, laid := [("flume/sched.reaches", laid_flume_sched_reaches)] }
def SchedGuardsSaid : Prop := schedGuardsRow.holds Tryd.pinned (OpenSpec.ofChange schedGuardsSpec)

/-- ITS FALSE NEIGHBOUR: 'it returns false'. Refute it at one input. -/
def schedGuardsWrong : ChangeSpec := { name := "schedGuards", fn := fun _ => fun
  | [d1, d2] => { results := [.lit (.bool false)], args := [d1, d2] }
  | _ => none }
def SchedGuardsWrongFalsely : Prop := schedGuardsRow.holds Tryd.pinned (OpenSpec.ofChange schedGuardsWrong)

/- THE SECOND FORM. 'bulk': how many values and letters a reading holds, each counted each time it is reached (what is shared counts as often as it is met; a slice's spare places count too). A statement '..UptoSaid' is the law's where the arguments, and the package variables that the reading takes, are together of bulk at most 1048576: NARROWER than '..Said'. Prove '..Said' where nothing that the law and all that it calls make is longer than what came in: it says more and counts as full. Else prove '..UptoSaid'. A law counts once. -/
mutual
def uptoBulk {H : Type} : DataW H → Nat
  | .lit (.string bytes) => bytes.length + 1
  | .lit _ => 1
  | .nil => 1
  | .ptr d => uptoBulk d + 1
  | .slice elems spare => uptoBulkAll elems + uptoBulkAll spare + 1
  | .agg parts => uptoBulkAll parts + 1
  | .iface _ d => uptoBulk d + 1
  | .map entries => uptoBulkEntries entries + 1
  | .held _ => 1
def uptoBulkAll {H : Type} : List (DataW H) → Nat
  | [] => 0
  | d :: r => uptoBulk d + uptoBulkAll r
def uptoBulkEntries {H : Type} : List (Lit × DataW H) → Nat
  | [] => 0
  | x :: r => uptoBulkEntry x + uptoBulkEntries r
def uptoBulkEntry {H : Type} : Lit × DataW H → Nat
  | (.string bytes, d) => bytes.length + uptoBulk d + 1
  | (_, d) => uptoBulk d + 1
 end
def uptoSmall : (H : Type) → List (DataW H) → Bool := fun _ ds => decide (uptoBulkAll ds ≤ 1048576)
def OpenSpec.upto (s : _root_.Go.ChangeSpec) : _root_.Go.OpenSpec := { _root_.Go.OpenSpec.ofChange s with cond := some uptoSmall }

/-- 'flumelaw20.SchedAll', WHERE WHAT IT READS IS OF BULK AT MOST 1048576: true; the input reads as it did. -/
def schedAllUptoRow : OpenClaim := { program := "ytdbhfeiibcpcaaadoor", sum := "70999df0ef1eb12241e3551cd9f0f748110f0e57f441f15c329f0ccae91ca3ce", func := "flume/flumelaw20.SchedAll", spec := "schedAll", unfollowed := true, recurses := true, named := ["flume/sched.reaches"], apart := false, laid := [("flume/sched.reaches", laid_flume_sched_reaches)], narrowed := true }
def SchedAllUptoSaid : Prop := schedAllUptoRow.holds Tryd.pinned (OpenSpec.upto schedAllSpec)

/-- 'flumelaw20.SchedSplit', WHERE WHAT IT READS IS OF BULK AT MOST 1048576: true; the input reads as it did. -/
def schedSplitUptoRow : OpenClaim := { program := "ytdbhfeiibcpcaaadoor", sum := "70999df0ef1eb12241e3551cd9f0f748110f0e57f441f15c329f0ccae91ca3ce", func := "flume/flumelaw20.SchedSplit", spec := "schedSplit", unfollowed := true, recurses := true, named := ["flume/sched.reaches"], apart := false, laid := [("flume/sched.reaches", laid_flume_sched_reaches)], narrowed := true }
def SchedSplitUptoSaid : Prop := schedSplitUptoRow.holds Tryd.pinned (OpenSpec.upto schedSplitSpec)

/-- 'flumelaw20.SchedLocks', WHERE WHAT IT READS IS OF BULK AT MOST 1048576: true; the input reads as it did. -/
def schedLocksUptoRow : OpenClaim := { program := "ytdbhfeiibcpcaaadoor", sum := "70999df0ef1eb12241e3551cd9f0f748110f0e57f441f15c329f0ccae91ca3ce", func := "flume/flumelaw20.SchedLocks", spec := "schedLocks", unfollowed := true, recurses := true, named := ["flume/sched.reaches"], apart := false, laid := [("flume/sched.reaches", laid_flume_sched_reaches)], narrowed := true }
def SchedLocksUptoSaid : Prop := schedLocksUptoRow.holds Tryd.pinned (OpenSpec.upto schedLocksSpec)

/-- 'flumelaw20.SchedQueues', WHERE WHAT IT READS IS OF BULK AT MOST 1048576: true; the input reads as it did. -/
def schedQueuesUptoRow : OpenClaim := { program := "ytdbhfeiibcpcaaadoor", sum := "70999df0ef1eb12241e3551cd9f0f748110f0e57f441f15c329f0ccae91ca3ce", func := "flume/flumelaw20.SchedQueues", spec := "schedQueues", unfollowed := true, recurses := true, named := ["flume/sched.reaches"], apart := false, laid := [("flume/sched.reaches", laid_flume_sched_reaches)], narrowed := true }
def SchedQueuesUptoSaid : Prop := schedQueuesUptoRow.holds Tryd.pinned (OpenSpec.upto schedQueuesSpec)

/-- 'flumelaw20.SchedConds', WHERE WHAT IT READS IS OF BULK AT MOST 1048576: true; the input reads as it did. -/
def schedCondsUptoRow : OpenClaim := { program := "ytdbhfeiibcpcaaadoor", sum := "70999df0ef1eb12241e3551cd9f0f748110f0e57f441f15c329f0ccae91ca3ce", func := "flume/flumelaw20.SchedConds", spec := "schedConds", unfollowed := true, recurses := true, named := ["flume/sched.reaches"], apart := false, laid := [("flume/sched.reaches", laid_flume_sched_reaches)], narrowed := true }
def SchedCondsUptoSaid : Prop := schedCondsUptoRow.holds Tryd.pinned (OpenSpec.upto schedCondsSpec)

/-- 'flumelaw20.SchedGuards', WHERE WHAT IT READS IS OF BULK AT MOST 1048576: true; the input reads as it did. -/
def schedGuardsUptoRow : OpenClaim := { program := "ytdbhfeiibcpcaaadoor", sum := "70999df0ef1eb12241e3551cd9f0f748110f0e57f441f15c329f0ccae91ca3ce", func := "flume/flumelaw20.SchedGuards", spec := "schedGuards", unfollowed := true, recurses := true, named := ["flume/sched.reaches"], apart := false, laid := [("flume/sched.reaches", laid_flume_sched_reaches)], narrowed := true }
def SchedGuardsUptoSaid : Prop := schedGuardsUptoRow.holds Tryd.pinned (OpenSpec.upto schedGuardsSpec)

end Rows
end Go.Proofs.YtdbhfeiibcpcaaaDoor
