/-
  DERIVED. GIVEN WITH THE SEED: THE CARDS: each row of YtdbhfeiibcpcaaaDoorRows.lean that lists a variable, with what it lists TIED to the program's text (the seventh form; the later family's looks); each row that meets fmt, with fmt's text TOLD by the authors' own Lean function (tested against real Go, not proved from fmt's source: count such statements apart). THE CARD IS WHAT COUNTS. Prove the row's statement (the work); the ties are given (YtdbhfeiibcpcaaaDoorTie.lean); close each card by the builder's one call (the guide's Derived/Test/ToyasCard.lean, 'card_holds'). Laid BY PROGRAM, IN A SANDBOX (cutbox-door.mjs). By AI agents, Wed Nov 11 2026. No macro, syntax, notation, axiom, sorry.
-/
import Derived.Test.YtdbhfeiibcpcaaaDoorRows
import GoSem.ClaimSeven
namespace Go.Proofs.YtdbhfeiibcpcaaaDoor
namespace Rows

/-- THE TIED CARD OF 'flumelaw20.SchedAll'. -/
def schedAllCard : Claim7 := { stood := { row := schedAllRow, standIns := [], harness := (true, "19b74273e82a047851e0f5a464a62445e94f947e1781ad75e51e218df7b3cb48"), looks := true }, kinds := [], alts := [], laidByText := true, laidKinds := [.data], laidTests := true, laidLooks := .later }
def SchedAllCardSaid : Prop := Claim7.holds Tryd.pinned (.plain (OpenSpec.ofChange schedAllSpec)) schedAllCard

/-- THE TIED CARD OF 'flumelaw20.SchedSplit'. -/
def schedSplitCard : Claim7 := { stood := { row := schedSplitRow, standIns := [], harness := (true, "19b74273e82a047851e0f5a464a62445e94f947e1781ad75e51e218df7b3cb48"), looks := true }, kinds := [], alts := [], laidByText := true, laidKinds := [.data], laidTests := true, laidLooks := .later }
def SchedSplitCardSaid : Prop := Claim7.holds Tryd.pinned (.plain (OpenSpec.ofChange schedSplitSpec)) schedSplitCard

/-- THE TIED CARD OF 'flumelaw20.SchedLocks'. -/
def schedLocksCard : Claim7 := { stood := { row := schedLocksRow, standIns := [], harness := (true, "19b74273e82a047851e0f5a464a62445e94f947e1781ad75e51e218df7b3cb48"), looks := true }, kinds := [], alts := [], laidByText := true, laidKinds := [.data], laidTests := true, laidLooks := .later }
def SchedLocksCardSaid : Prop := Claim7.holds Tryd.pinned (.plain (OpenSpec.ofChange schedLocksSpec)) schedLocksCard

/-- THE TIED CARD OF 'flumelaw20.SchedQueues'. -/
def schedQueuesCard : Claim7 := { stood := { row := schedQueuesRow, standIns := [], harness := (true, "19b74273e82a047851e0f5a464a62445e94f947e1781ad75e51e218df7b3cb48"), looks := true }, kinds := [], alts := [], laidByText := true, laidKinds := [.data], laidTests := true, laidLooks := .later }
def SchedQueuesCardSaid : Prop := Claim7.holds Tryd.pinned (.plain (OpenSpec.ofChange schedQueuesSpec)) schedQueuesCard

/-- THE TIED CARD OF 'flumelaw20.SchedConds'. -/
def schedCondsCard : Claim7 := { stood := { row := schedCondsRow, standIns := [], harness := (true, "19b74273e82a047851e0f5a464a62445e94f947e1781ad75e51e218df7b3cb48"), looks := true }, kinds := [], alts := [], laidByText := true, laidKinds := [.data], laidTests := true, laidLooks := .later }
def SchedCondsCardSaid : Prop := Claim7.holds Tryd.pinned (.plain (OpenSpec.ofChange schedCondsSpec)) schedCondsCard

/-- THE TIED CARD OF 'flumelaw20.SchedGuards'. -/
def schedGuardsCard : Claim7 := { stood := { row := schedGuardsRow, standIns := [], harness := (true, "19b74273e82a047851e0f5a464a62445e94f947e1781ad75e51e218df7b3cb48"), looks := true }, kinds := [], alts := [], laidByText := true, laidKinds := [.data], laidTests := true, laidLooks := .later }
def SchedGuardsCardSaid : Prop := Claim7.holds Tryd.pinned (.plain (OpenSpec.ofChange schedGuardsSpec)) schedGuardsCard

/-- THE SECOND FORM's CARD OF 'flumelaw20.SchedAll'. -/
def schedAllUptoCard : Claim7 := { stood := { row := schedAllUptoRow, standIns := [], harness := (true, "19b74273e82a047851e0f5a464a62445e94f947e1781ad75e51e218df7b3cb48"), looks := true }, kinds := [], alts := [], laidByText := true, laidKinds := [.data], laidTests := true, laidLooks := .later }
def SchedAllUptoCardSaid : Prop := Claim7.holds Tryd.pinned (.plain (OpenSpec.upto schedAllSpec)) schedAllUptoCard

/-- THE SECOND FORM's CARD OF 'flumelaw20.SchedSplit'. -/
def schedSplitUptoCard : Claim7 := { stood := { row := schedSplitUptoRow, standIns := [], harness := (true, "19b74273e82a047851e0f5a464a62445e94f947e1781ad75e51e218df7b3cb48"), looks := true }, kinds := [], alts := [], laidByText := true, laidKinds := [.data], laidTests := true, laidLooks := .later }
def SchedSplitUptoCardSaid : Prop := Claim7.holds Tryd.pinned (.plain (OpenSpec.upto schedSplitSpec)) schedSplitUptoCard

/-- THE SECOND FORM's CARD OF 'flumelaw20.SchedLocks'. -/
def schedLocksUptoCard : Claim7 := { stood := { row := schedLocksUptoRow, standIns := [], harness := (true, "19b74273e82a047851e0f5a464a62445e94f947e1781ad75e51e218df7b3cb48"), looks := true }, kinds := [], alts := [], laidByText := true, laidKinds := [.data], laidTests := true, laidLooks := .later }
def SchedLocksUptoCardSaid : Prop := Claim7.holds Tryd.pinned (.plain (OpenSpec.upto schedLocksSpec)) schedLocksUptoCard

/-- THE SECOND FORM's CARD OF 'flumelaw20.SchedQueues'. -/
def schedQueuesUptoCard : Claim7 := { stood := { row := schedQueuesUptoRow, standIns := [], harness := (true, "19b74273e82a047851e0f5a464a62445e94f947e1781ad75e51e218df7b3cb48"), looks := true }, kinds := [], alts := [], laidByText := true, laidKinds := [.data], laidTests := true, laidLooks := .later }
def SchedQueuesUptoCardSaid : Prop := Claim7.holds Tryd.pinned (.plain (OpenSpec.upto schedQueuesSpec)) schedQueuesUptoCard

/-- THE SECOND FORM's CARD OF 'flumelaw20.SchedConds'. -/
def schedCondsUptoCard : Claim7 := { stood := { row := schedCondsUptoRow, standIns := [], harness := (true, "19b74273e82a047851e0f5a464a62445e94f947e1781ad75e51e218df7b3cb48"), looks := true }, kinds := [], alts := [], laidByText := true, laidKinds := [.data], laidTests := true, laidLooks := .later }
def SchedCondsUptoCardSaid : Prop := Claim7.holds Tryd.pinned (.plain (OpenSpec.upto schedCondsSpec)) schedCondsUptoCard

/-- THE SECOND FORM's CARD OF 'flumelaw20.SchedGuards'. -/
def schedGuardsUptoCard : Claim7 := { stood := { row := schedGuardsUptoRow, standIns := [], harness := (true, "19b74273e82a047851e0f5a464a62445e94f947e1781ad75e51e218df7b3cb48"), looks := true }, kinds := [], alts := [], laidByText := true, laidKinds := [.data], laidTests := true, laidLooks := .later }
def SchedGuardsUptoCardSaid : Prop := Claim7.holds Tryd.pinned (.plain (OpenSpec.upto schedGuardsSpec)) schedGuardsUptoCard
end Rows
end Go.Proofs.YtdbhfeiibcpcaaaDoor
