/-
  DERIVED. GIVEN WITH THE SEED: THE CARDS: each row of YtngnenbidpojeaaDoorRows.lean that lists a variable, with what it lists TIED to the program's text (the seventh form; the later family's looks); each row that meets fmt, with fmt's text TOLD by the authors' own Lean function (tested against real Go, not proved from fmt's source: count such statements apart). THE CARD IS WHAT COUNTS. Prove the row's statement (the work); the ties are given (YtngnenbidpojeaaDoorTie.lean); close each card by the builder's one call (the guide's Derived/Test/ToyasCard.lean, 'card_holds'). Laid BY PROGRAM, IN A SANDBOX (cutbox-door.mjs). By AI agents, Wed Nov 11 2026. No macro, syntax, notation, axiom, sorry.
-/
import Derived.Test.YtngnenbidpojeaaDoorRows
import GoSem.ClaimSeven
namespace Go.Proofs.YtngnenbidpojeaaDoor
namespace Rows

/-- THE TIED CARD OF 'reevelaw20.TurnTries'. -/
def turnTriesCard : Claim7 := { stood := { row := turnTriesRow, standIns := [], harness := (true, "f5fc9fe4bb40bfe9f70c6648aad7cbd8411eac37a017724f4b8e8804d23c18fe"), looks := false }, kinds := [], alts := [], laidByText := true, laidKinds := [.data], laidTests := true, laidLooks := .later }
def TurnTriesCardSaid : Prop := Claim7.holds Tryd.pinned (.plain (OpenSpec.ofChange turnTriesSpec)) turnTriesCard

/-- THE TIED CARD OF 'reevelaw20.TurnFull'. -/
def turnFullCard : Claim7 := { stood := { row := turnFullRow, standIns := [], harness := (true, "f5fc9fe4bb40bfe9f70c6648aad7cbd8411eac37a017724f4b8e8804d23c18fe"), looks := false }, kinds := [], alts := [], laidByText := true, laidKinds := [.data], laidTests := true, laidLooks := .later }
def TurnFullCardSaid : Prop := Claim7.holds Tryd.pinned (.plain (OpenSpec.ofChange turnFullSpec)) turnFullCard

/-- THE SECOND FORM's CARD OF 'reevelaw20.TurnTries'. -/
def turnTriesUptoCard : Claim7 := { stood := { row := turnTriesUptoRow, standIns := [], harness := (true, "f5fc9fe4bb40bfe9f70c6648aad7cbd8411eac37a017724f4b8e8804d23c18fe"), looks := false }, kinds := [], alts := [], laidByText := true, laidKinds := [.data], laidTests := true, laidLooks := .later }
def TurnTriesUptoCardSaid : Prop := Claim7.holds Tryd.pinned (.plain (OpenSpec.upto turnTriesSpec)) turnTriesUptoCard

/-- THE SECOND FORM's CARD OF 'reevelaw20.TurnFull'. -/
def turnFullUptoCard : Claim7 := { stood := { row := turnFullUptoRow, standIns := [], harness := (true, "f5fc9fe4bb40bfe9f70c6648aad7cbd8411eac37a017724f4b8e8804d23c18fe"), looks := false }, kinds := [], alts := [], laidByText := true, laidKinds := [.data], laidTests := true, laidLooks := .later }
def TurnFullUptoCardSaid : Prop := Claim7.holds Tryd.pinned (.plain (OpenSpec.upto turnFullSpec)) turnFullUptoCard
end Rows
end Go.Proofs.YtngnenbidpojeaaDoor
