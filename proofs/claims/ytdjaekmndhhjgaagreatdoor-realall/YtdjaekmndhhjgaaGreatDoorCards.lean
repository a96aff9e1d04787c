/-
  DERIVED. GIVEN WITH THE SEED: THE CARDS: each row of YtdjaekmndhhjgaaGreatDoorRows.lean that lists a variable, with what it lists TIED to the program's text (the seventh form; the later family's looks); each row that meets fmt, with fmt's text TOLD by the authors' own Lean function (tested against real Go, not proved from fmt's source: count such statements apart). THE CARD IS WHAT COUNTS. Prove the row's statement (the work); the ties are given (YtdjaekmndhhjgaaGreatDoorTie.lean); close each card by the builder's one call (the guide's Derived/Test/ToyasCard.lean, 'card_holds'). Laid BY PROGRAM, IN A SANDBOX (cutbox-door.mjs). By AI agents, Wed Nov 11 2026. No macro, syntax, notation, axiom, sorry.
-/
import Derived.Test.YtdjaekmndhhjgaaGreatDoorRows
import GoSem.ClaimSeven
namespace Go.Proofs.YtdjaekmndhhjgaaGreatDoor
namespace Rows

/-- THE TIED CARD OF 'flumelaw3.RealAll'. -/
def realAllCard : Claim7 := { stood := { row := realAllRow, standIns := [], harness := (true, "fe7888d96b0b3cb45b7a753ca36be9bb0114c6524f41d9cbd4dd4dc82e90c939"), looks := true }, kinds := [], alts := [], laidByText := true, laidKinds := [.data, .data, .widerDeep, .widerDeep, .data, .data, .data, .data, .data, .sentinel, .sentinel, .pinned, .pinned], laidTests := true, laidLooks := .later }
def RealAllCardSaid : Prop := Claim7.holds Tryz.pinned (.plain (OpenSpec.ofChange realAllSpec)) realAllCard

/-- THE TIED CARD OF 'flumelaw3.RealOrder'. -/
def realOrderCard : Claim7 := { stood := { row := realOrderRow, standIns := [], harness := (true, "fe7888d96b0b3cb45b7a753ca36be9bb0114c6524f41d9cbd4dd4dc82e90c939"), looks := true }, kinds := [], alts := [], laidByText := true, laidKinds := [.data, .data, .widerDeep, .widerDeep, .data, .data, .data, .data, .data, .sentinel, .sentinel, .pinned, .pinned], laidTests := true, laidLooks := .later }
def RealOrderCardSaid : Prop := Claim7.holds Tryz.pinned (.plain (OpenSpec.ofChange realOrderSpec)) realOrderCard

/-- THE TIED CARD OF 'flumelaw3.RealNext'. -/
def realNextCard : Claim7 := { stood := { row := realNextRow, standIns := [], harness := (true, "fe7888d96b0b3cb45b7a753ca36be9bb0114c6524f41d9cbd4dd4dc82e90c939"), looks := true }, kinds := [], alts := [], laidByText := true, laidKinds := [.data, .data, .widerDeep, .widerDeep, .data, .data, .data, .data, .data, .sentinel, .sentinel, .pinned, .pinned], laidTests := true, laidLooks := .later }
def RealNextCardSaid : Prop := Claim7.holds Tryz.pinned (.plain (OpenSpec.ofChange realNextSpec)) realNextCard

/-- THE TIED CARD OF 'flumelaw3.RealLists'. -/
def realListsCard : Claim7 := { stood := { row := realListsRow, standIns := [], harness := (true, "fe7888d96b0b3cb45b7a753ca36be9bb0114c6524f41d9cbd4dd4dc82e90c939"), looks := true }, kinds := [], alts := [], laidByText := true, laidKinds := [.data, .data, .widerDeep, .widerDeep, .data, .data, .data, .data, .data, .sentinel, .sentinel, .pinned, .pinned], laidTests := true, laidLooks := .later }
def RealListsCardSaid : Prop := Claim7.holds Tryz.pinned (.plain (OpenSpec.ofChange realListsSpec)) realListsCard

/-- THE TIED CARD OF 'flumelaw3.RealSums'. -/
def realSumsCard : Claim7 := { stood := { row := realSumsRow, standIns := [], harness := (true, "fe7888d96b0b3cb45b7a753ca36be9bb0114c6524f41d9cbd4dd4dc82e90c939"), looks := true }, kinds := [], alts := [], laidByText := true, laidKinds := [.data, .data, .widerDeep, .widerDeep, .data, .data, .data, .data, .data, .sentinel, .sentinel, .pinned, .pinned], laidTests := true, laidLooks := .later }
def RealSumsCardSaid : Prop := Claim7.holds Tryz.pinned (.plain (OpenSpec.ofChange realSumsSpec)) realSumsCard

/-- THE TIED CARD OF 'flumelaw3.RealTexts'. -/
def realTextsCard : Claim7 := { stood := { row := realTextsRow, standIns := [], harness := (true, "fe7888d96b0b3cb45b7a753ca36be9bb0114c6524f41d9cbd4dd4dc82e90c939"), looks := true }, kinds := [], alts := [], laidByText := true, laidKinds := [.data, .data, .widerDeep, .widerDeep, .data, .data, .data, .data, .data, .sentinel, .sentinel, .pinned, .pinned], laidTests := true, laidLooks := .later }
def RealTextsCardSaid : Prop := Claim7.holds Tryz.pinned (.plain (OpenSpec.ofChange realTextsSpec)) realTextsCard

/-- THE SECOND FORM's CARD OF 'flumelaw3.RealAll'. -/
def realAllUptoCard : Claim7 := { stood := { row := realAllUptoRow, standIns := [], harness := (true, "fe7888d96b0b3cb45b7a753ca36be9bb0114c6524f41d9cbd4dd4dc82e90c939"), looks := true }, kinds := [], alts := [], laidByText := true, laidKinds := [.data, .data, .widerDeep, .widerDeep, .data, .data, .data, .data, .data, .sentinel, .sentinel, .pinned, .pinned], laidTests := true, laidLooks := .later }
def RealAllUptoCardSaid : Prop := Claim7.holds Tryz.pinned (.plain (OpenSpec.upto realAllSpec)) realAllUptoCard

/-- THE SECOND FORM's CARD OF 'flumelaw3.RealOrder'. -/
def realOrderUptoCard : Claim7 := { stood := { row := realOrderUptoRow, standIns := [], harness := (true, "fe7888d96b0b3cb45b7a753ca36be9bb0114c6524f41d9cbd4dd4dc82e90c939"), looks := true }, kinds := [], alts := [], laidByText := true, laidKinds := [.data, .data, .widerDeep, .widerDeep, .data, .data, .data, .data, .data, .sentinel, .sentinel, .pinned, .pinned], laidTests := true, laidLooks := .later }
def RealOrderUptoCardSaid : Prop := Claim7.holds Tryz.pinned (.plain (OpenSpec.upto realOrderSpec)) realOrderUptoCard

/-- THE SECOND FORM's CARD OF 'flumelaw3.RealNext'. -/
def realNextUptoCard : Claim7 := { stood := { row := realNextUptoRow, standIns := [], harness := (true, "fe7888d96b0b3cb45b7a753ca36be9bb0114c6524f41d9cbd4dd4dc82e90c939"), looks := true }, kinds := [], alts := [], laidByText := true, laidKinds := [.data, .data, .widerDeep, .widerDeep, .data, .data, .data, .data, .data, .sentinel, .sentinel, .pinned, .pinned], laidTests := true, laidLooks := .later }
def RealNextUptoCardSaid : Prop := Claim7.holds Tryz.pinned (.plain (OpenSpec.upto realNextSpec)) realNextUptoCard

/-- THE SECOND FORM's CARD OF 'flumelaw3.RealLists'. -/
def realListsUptoCard : Claim7 := { stood := { row := realListsUptoRow, standIns := [], harness := (true, "fe7888d96b0b3cb45b7a753ca36be9bb0114c6524f41d9cbd4dd4dc82e90c939"), looks := true }, kinds := [], alts := [], laidByText := true, laidKinds := [.data, .data, .widerDeep, .widerDeep, .data, .data, .data, .data, .data, .sentinel, .sentinel, .pinned, .pinned], laidTests := true, laidLooks := .later }
def RealListsUptoCardSaid : Prop := Claim7.holds Tryz.pinned (.plain (OpenSpec.upto realListsSpec)) realListsUptoCard

/-- THE SECOND FORM's CARD OF 'flumelaw3.RealSums'. -/
def realSumsUptoCard : Claim7 := { stood := { row := realSumsUptoRow, standIns := [], harness := (true, "fe7888d96b0b3cb45b7a753ca36be9bb0114c6524f41d9cbd4dd4dc82e90c939"), looks := true }, kinds := [], alts := [], laidByText := true, laidKinds := [.data, .data, .widerDeep, .widerDeep, .data, .data, .data, .data, .data, .sentinel, .sentinel, .pinned, .pinned], laidTests := true, laidLooks := .later }
def RealSumsUptoCardSaid : Prop := Claim7.holds Tryz.pinned (.plain (OpenSpec.upto realSumsSpec)) realSumsUptoCard

/-- THE SECOND FORM's CARD OF 'flumelaw3.RealTexts'. -/
def realTextsUptoCard : Claim7 := { stood := { row := realTextsUptoRow, standIns := [], harness := (true, "fe7888d96b0b3cb45b7a753ca36be9bb0114c6524f41d9cbd4dd4dc82e90c939"), looks := true }, kinds := [], alts := [], laidByText := true, laidKinds := [.data, .data, .widerDeep, .widerDeep, .data, .data, .data, .data, .data, .sentinel, .sentinel, .pinned, .pinned], laidTests := true, laidLooks := .later }
def RealTextsUptoCardSaid : Prop := Claim7.holds Tryz.pinned (.plain (OpenSpec.upto realTextsSpec)) realTextsUptoCard
end Rows
end Go.Proofs.YtdjaekmndhhjgaaGreatDoor
