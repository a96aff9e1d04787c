/-
  DERIVED. GIVEN WITH THE SEED: THE CARDS: each row of YtnimildpcnmjeaaGreatDoorRows.lean that lists a variable, with what it lists TIED to the program's text (the seventh form; the later family's looks); each row that meets fmt, with fmt's text TOLD by the authors' own Lean function (tested against real Go, not proved from fmt's source: count such statements apart). THE CARD IS WHAT COUNTS. Prove the row's statement (the work); the ties are given (YtnimildpcnmjeaaGreatDoorTie.lean); close each card by the builder's one call (the guide's Derived/Test/ToyasCard.lean, 'card_holds'). Laid BY PROGRAM, IN A SANDBOX (cutbox-door.mjs). By AI agents, Wed Nov 11 2026. No macro, syntax, notation, axiom, sorry.
-/
import Derived.Test.YtnimildpcnmjeaaGreatDoorRows
import GoSem.ClaimSeven
namespace Go.Proofs.YtnimildpcnmjeaaGreatDoor
namespace Rows

/-- THE TIED CARD OF 'flumelaw14.StoreSealed'. -/
def storeSealedCard : Claim7 := { stood := { row := storeSealedRow, standIns := [], harness := (true, "a163a012f43d1aa8a774fe46a5e28435d68373801b370db7ee57f685c0eb976a"), looks := true }, kinds := [], alts := [], laidByText := true, laidKinds := [.data, .data, .data], laidTests := true, laidLooks := .later }
def StoreSealedCardSaid : Prop := Claim7.holds Tryz.pinned (.plain (OpenSpec.ofChange storeSealedSpec)) storeSealedCard

/-- THE TIED CARD OF 'flumelaw14.StoreEnds'. -/
def storeEndsCard : Claim7 := { stood := { row := storeEndsRow, standIns := [], harness := (true, "a163a012f43d1aa8a774fe46a5e28435d68373801b370db7ee57f685c0eb976a"), looks := true }, kinds := [], alts := [], laidByText := true, laidKinds := [.data, .data, .data], laidTests := true, laidLooks := .later }
def StoreEndsCardSaid : Prop := Claim7.holds Tryz.pinned (.plain (OpenSpec.ofChange storeEndsSpec)) storeEndsCard

/-- THE SECOND FORM's CARD OF 'flumelaw14.StoreSealed'. -/
def storeSealedUptoCard : Claim7 := { stood := { row := storeSealedUptoRow, standIns := [], harness := (true, "a163a012f43d1aa8a774fe46a5e28435d68373801b370db7ee57f685c0eb976a"), looks := true }, kinds := [], alts := [], laidByText := true, laidKinds := [.data, .data, .data], laidTests := true, laidLooks := .later }
def StoreSealedUptoCardSaid : Prop := Claim7.holds Tryz.pinned (.plain (OpenSpec.upto storeSealedSpec)) storeSealedUptoCard

/-- THE SECOND FORM's CARD OF 'flumelaw14.StoreEnds'. -/
def storeEndsUptoCard : Claim7 := { stood := { row := storeEndsUptoRow, standIns := [], harness := (true, "a163a012f43d1aa8a774fe46a5e28435d68373801b370db7ee57f685c0eb976a"), looks := true }, kinds := [], alts := [], laidByText := true, laidKinds := [.data, .data, .data], laidTests := true, laidLooks := .later }
def StoreEndsUptoCardSaid : Prop := Claim7.holds Tryz.pinned (.plain (OpenSpec.upto storeEndsSpec)) storeEndsUptoCard
end Rows
end Go.Proofs.YtnimildpcnmjeaaGreatDoor
