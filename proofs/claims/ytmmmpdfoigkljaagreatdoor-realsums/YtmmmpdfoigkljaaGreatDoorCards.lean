/-
  DERIVED. GIVEN WITH THE SEED: THE CARDS: each row of YtmmmpdfoigkljaaGreatDoorRows.lean that lists a variable, with what it lists TIED to the program's text (the seventh form; the later family's looks); each row that meets fmt, with fmt's text TOLD by the authors' own Lean function (tested against real Go, not proved from fmt's source: count such statements apart). THE CARD IS WHAT COUNTS. Prove the row's statement (the work); the ties are given (YtmmmpdfoigkljaaGreatDoorTie.lean); close each card by the builder's one call (the guide's Derived/Test/ToyasCard.lean, 'card_holds'). Laid BY PROGRAM, IN A SANDBOX (cutbox-door.mjs). By AI agents, Wed Nov 11 2026. No macro, syntax, notation, axiom, sorry.
-/
import Derived.Test.YtmmmpdfoigkljaaGreatDoorRows
import GoSem.ClaimSeven
namespace Go.Proofs.YtmmmpdfoigkljaaGreatDoor
namespace Rows

/-- THE TIED CARD OF 'flumelaw3.RealLists'. -/
def realListsCard : Claim7 := { stood := { row := realListsRow, standIns := [], harness := (true, "7cf70f614fbace05e4b0bd100d3a56c1dee4c4959754c2941e8dfeca55cee430"), looks := true }, kinds := [], alts := [], laidByText := true, laidKinds := [.data, .data, .widerDeep, .widerDeep, .data, .data, .data, .data, .data, .sentinel, .sentinel, .pinned, .pinned], laidTests := true, laidLooks := .later }
def RealListsCardSaid : Prop := Claim7.holds Tryz.pinned (.plain (OpenSpec.ofChange realListsSpec)) realListsCard

/-- THE TIED CARD OF 'flumelaw3.RealSums'. -/
def realSumsCard : Claim7 := { stood := { row := realSumsRow, standIns := [], harness := (true, "7cf70f614fbace05e4b0bd100d3a56c1dee4c4959754c2941e8dfeca55cee430"), looks := true }, kinds := [], alts := [], laidByText := true, laidKinds := [.data, .data, .widerDeep, .widerDeep, .data, .data, .data, .data, .data, .sentinel, .sentinel, .pinned, .pinned], laidTests := true, laidLooks := .later }
def RealSumsCardSaid : Prop := Claim7.holds Tryz.pinned (.plain (OpenSpec.ofChange realSumsSpec)) realSumsCard

/-- THE SECOND FORM's CARD OF 'flumelaw3.RealLists'. -/
def realListsUptoCard : Claim7 := { stood := { row := realListsUptoRow, standIns := [], harness := (true, "7cf70f614fbace05e4b0bd100d3a56c1dee4c4959754c2941e8dfeca55cee430"), looks := true }, kinds := [], alts := [], laidByText := true, laidKinds := [.data, .data, .widerDeep, .widerDeep, .data, .data, .data, .data, .data, .sentinel, .sentinel, .pinned, .pinned], laidTests := true, laidLooks := .later }
def RealListsUptoCardSaid : Prop := Claim7.holds Tryz.pinned (.plain (OpenSpec.upto realListsSpec)) realListsUptoCard

/-- THE SECOND FORM's CARD OF 'flumelaw3.RealSums'. -/
def realSumsUptoCard : Claim7 := { stood := { row := realSumsUptoRow, standIns := [], harness := (true, "7cf70f614fbace05e4b0bd100d3a56c1dee4c4959754c2941e8dfeca55cee430"), looks := true }, kinds := [], alts := [], laidByText := true, laidKinds := [.data, .data, .widerDeep, .widerDeep, .data, .data, .data, .data, .data, .sentinel, .sentinel, .pinned, .pinned], laidTests := true, laidLooks := .later }
def RealSumsUptoCardSaid : Prop := Claim7.holds Tryz.pinned (.plain (OpenSpec.upto realSumsSpec)) realSumsUptoCard
end Rows
end Go.Proofs.YtmmmpdfoigkljaaGreatDoor
