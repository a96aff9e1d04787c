/-
  DERIVED. GIVEN WITH THE SEED: THE CARDS: each row of YtdjaekmndhhjgabGreatDoorRows.lean that lists a variable, with what it lists TIED to the program's text (the seventh form; the later family's looks); each row that meets fmt, with fmt's text TOLD by the authors' own Lean function (tested against real Go, not proved from fmt's source: count such statements apart). THE CARD IS WHAT COUNTS. Prove the row's statement (the work); the ties are given (YtdjaekmndhhjgabGreatDoorTie.lean); close each card by the builder's one call (the guide's Derived/Test/ToyasCard.lean, 'card_holds'). Laid BY PROGRAM, IN A SANDBOX (cutbox-door.mjs). By AI agents, Wed Nov 11 2026. No macro, syntax, notation, axiom, sorry.
-/
import Derived.Test.YtdjaekmndhhjgabGreatDoorRows
import GoSem.ClaimSeven
namespace Go.Proofs.YtdjaekmndhhjgabGreatDoor
namespace Rows

/-- THE TIED CARD OF 'flumelaw3.RealEnds'. -/
def realEndsCard : Claim7 := { stood := { row := realEndsRow, standIns := [], harness := (true, "eb1828228a0f440bf04c443bf20515b30b0fd509b29215d02a9a22a0f9537b50"), looks := true }, kinds := [], alts := [], laidByText := true, laidKinds := [.data, .data, .widerDeep, .widerDeep, .data, .data, .data, .data, .data, .sentinel, .sentinel, .pinned, .pinned], laidTests := true, laidLooks := .later }
def RealEndsCardSaid : Prop := Claim7.holds Tryz.pinned (.plain (OpenSpec.ofChange realEndsSpec)) realEndsCard

/-- THE TIED CARD OF 'flumelaw3.RealClasses'. -/
def realClassesCard : Claim7 := { stood := { row := realClassesRow, standIns := [], harness := (true, "eb1828228a0f440bf04c443bf20515b30b0fd509b29215d02a9a22a0f9537b50"), looks := true }, kinds := [], alts := [], laidByText := true, laidKinds := [.data, .data, .widerDeep, .widerDeep, .data, .data, .data, .data, .data, .sentinel, .sentinel, .pinned, .pinned], laidTests := true, laidLooks := .later }
def RealClassesCardSaid : Prop := Claim7.holds Tryz.pinned (.plain (OpenSpec.ofChange realClassesSpec)) realClassesCard

/-- THE SECOND FORM's CARD OF 'flumelaw3.RealEnds'. -/
def realEndsUptoCard : Claim7 := { stood := { row := realEndsUptoRow, standIns := [], harness := (true, "eb1828228a0f440bf04c443bf20515b30b0fd509b29215d02a9a22a0f9537b50"), looks := true }, kinds := [], alts := [], laidByText := true, laidKinds := [.data, .data, .widerDeep, .widerDeep, .data, .data, .data, .data, .data, .sentinel, .sentinel, .pinned, .pinned], laidTests := true, laidLooks := .later }
def RealEndsUptoCardSaid : Prop := Claim7.holds Tryz.pinned (.plain (OpenSpec.upto realEndsSpec)) realEndsUptoCard

/-- THE SECOND FORM's CARD OF 'flumelaw3.RealClasses'. -/
def realClassesUptoCard : Claim7 := { stood := { row := realClassesUptoRow, standIns := [], harness := (true, "eb1828228a0f440bf04c443bf20515b30b0fd509b29215d02a9a22a0f9537b50"), looks := true }, kinds := [], alts := [], laidByText := true, laidKinds := [.data, .data, .widerDeep, .widerDeep, .data, .data, .data, .data, .data, .sentinel, .sentinel, .pinned, .pinned], laidTests := true, laidLooks := .later }
def RealClassesUptoCardSaid : Prop := Claim7.holds Tryz.pinned (.plain (OpenSpec.upto realClassesSpec)) realClassesUptoCard
end Rows
end Go.Proofs.YtdjaekmndhhjgabGreatDoor
