/-
  DERIVED. GIVEN WITH THE SEED: THE CARDS: each row of YtlliliddljkbfaaGreatDoorRows.lean that lists a variable, with what it lists TIED to the program's text (the seventh form; the later family's looks); each row that meets fmt, with fmt's text TOLD by the authors' own Lean function (tested against real Go, not proved from fmt's source: count such statements apart). THE CARD IS WHAT COUNTS. Prove the row's statement (the work); the ties are given (YtlliliddljkbfaaGreatDoorTie.lean); close each card by the builder's one call (the guide's Derived/Test/ToyasCard.lean, 'card_holds'). Laid BY PROGRAM, IN A SANDBOX (cutbox-door.mjs). By AI agents, Wed Nov 11 2026. No macro, syntax, notation, axiom, sorry.
-/
import Derived.Test.YtlliliddljkbfaaGreatDoorRows
import GoSem.ClaimSeven
namespace Go.Proofs.YtlliliddljkbfaaGreatDoor
namespace Rows

/-- THE TIED CARD OF 'rinselaw.Rinsed'. -/
def rinsedCard : Claim7 := { stood := { row := rinsedRow, standIns := [], harness := (true, "e2ad5a7ab19b0e56de963811624ddbb74a715872ed11195008b95ccee13bde6c"), looks := false }, kinds := [], alts := [], laidByText := true, laidKinds := [.data, .data, .data], laidTests := true, laidLooks := .later }
def RinsedCardSaid : Prop := Claim7.holds Tryz.pinned (.plain (OpenSpec.ofChange rinsedSpec)) rinsedCard

/-- THE TIED CARD OF 'rinselaw.All'. -/
def allCard : Claim7 := { stood := { row := allRow, standIns := [], harness := (true, "e2ad5a7ab19b0e56de963811624ddbb74a715872ed11195008b95ccee13bde6c"), looks := false }, kinds := [], alts := [], laidByText := true, laidKinds := [.data, .data, .data], laidTests := true, laidLooks := .later }
def AllCardSaid : Prop := Claim7.holds Tryz.pinned (.plain (OpenSpec.ofChange allSpec)) allCard

/-- THE SECOND FORM's CARD OF 'rinselaw.Rinsed'. -/
def rinsedUptoCard : Claim7 := { stood := { row := rinsedUptoRow, standIns := [], harness := (true, "e2ad5a7ab19b0e56de963811624ddbb74a715872ed11195008b95ccee13bde6c"), looks := false }, kinds := [], alts := [], laidByText := true, laidKinds := [.data, .data, .data], laidTests := true, laidLooks := .later }
def RinsedUptoCardSaid : Prop := Claim7.holds Tryz.pinned (.plain (OpenSpec.upto rinsedSpec)) rinsedUptoCard

/-- THE SECOND FORM's CARD OF 'rinselaw.All'. -/
def allUptoCard : Claim7 := { stood := { row := allUptoRow, standIns := [], harness := (true, "e2ad5a7ab19b0e56de963811624ddbb74a715872ed11195008b95ccee13bde6c"), looks := false }, kinds := [], alts := [], laidByText := true, laidKinds := [.data, .data, .data], laidTests := true, laidLooks := .later }
def AllUptoCardSaid : Prop := Claim7.holds Tryz.pinned (.plain (OpenSpec.upto allSpec)) allUptoCard
end Rows
end Go.Proofs.YtlliliddljkbfaaGreatDoor
