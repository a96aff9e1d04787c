/-
  DERIVED. GIVEN WITH THE SEED: THE CARDS: each row of YtiiinpmkidobgaaDoorRows.lean that lists a variable, with what it lists TIED to the program's text (the seventh form; the later family's looks); each row that meets fmt, with fmt's text TOLD by the authors' own Lean function (tested against real Go, not proved from fmt's source: count such statements apart). THE CARD IS WHAT COUNTS. Prove the row's statement (the work); the ties are given (YtiiinpmkidobgaaDoorTie.lean); close each card by the builder's one call (the guide's Derived/Test/ToyasCard.lean, 'card_holds'). Laid BY PROGRAM, IN A SANDBOX (cutbox-door.mjs). By AI agents, Wed Nov 11 2026. No macro, syntax, notation, axiom, sorry.
-/
import Derived.Test.YtiiinpmkidobgaaDoorRows
import GoSem.ClaimSeven
namespace Go.Proofs.YtiiinpmkidobgaaDoor
namespace Rows

/-- THE TIED CARD OF 'flumelaw20.SchedAll'. -/
def schedAllCard : Claim7 := { stood := { row := schedAllRow, standIns := [], harness := (true, "472111a42b109e3e2ba317945780e85835263605f77c9690c152453b084348b0"), looks := true }, kinds := [], alts := [], laidByText := true, laidKinds := [.data], laidTests := true, laidLooks := .later }
def SchedAllCardSaid : Prop := Claim7.holds Tryd.pinned (.plain (OpenSpec.ofChange schedAllSpec)) schedAllCard

/-- THE SECOND FORM's CARD OF 'flumelaw20.SchedAll'. -/
def schedAllUptoCard : Claim7 := { stood := { row := schedAllUptoRow, standIns := [], harness := (true, "472111a42b109e3e2ba317945780e85835263605f77c9690c152453b084348b0"), looks := true }, kinds := [], alts := [], laidByText := true, laidKinds := [.data], laidTests := true, laidLooks := .later }
def SchedAllUptoCardSaid : Prop := Claim7.holds Tryd.pinned (.plain (OpenSpec.upto schedAllSpec)) schedAllUptoCard
end Rows
end Go.Proofs.YtiiinpmkidobgaaDoor
