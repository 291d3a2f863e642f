/-
  DERIVED. GIVEN WITH THE SEED: THE CARDS: each row of YtngnenbidpojeaaGreatDoorRows.lean that lists a variable, with what it lists TIED to the program's text (the seventh form; the later family's looks); each row that meets fmt, with fmt's text TOLD by the authors' own Lean function (tested against real Go, not proved from fmt's source: count such statements apart). THE CARD IS WHAT COUNTS. Prove the row's statement (the work); the ties are given (YtngnenbidpojeaaGreatDoorTie.lean); close each card by the builder's one call (the guide's Derived/Test/ToyasCard.lean, 'card_holds'). Laid BY PROGRAM, IN A SANDBOX (cutbox-door.mjs). By AI agents, Wed Nov 11 2026. No macro, syntax, notation, axiom, sorry.
-/
import Derived.Test.YtngnenbidpojeaaGreatDoorRows
import GoSem.ClaimSeven
namespace Go.Proofs.YtngnenbidpojeaaGreatDoor
namespace Rows

/-- THE TIED CARD OF 'reevelaw20.TurnTakes'. -/
def turnTakesCard : Claim7 := { stood := { row := turnTakesRow, standIns := [], harness := (true, "aebdae35645aef6ccfd0812b256e6e0d476360d7d615f88b547e43600cffa8b7"), looks := false }, kinds := [], alts := [], laidByText := true, laidKinds := [.data], laidTests := true, laidLooks := .later }
def TurnTakesCardSaid : Prop := Claim7.holds Tryz.pinned (.plain (OpenSpec.ofChange turnTakesSpec)) turnTakesCard

/-- THE TIED CARD OF 'reevelaw20.TurnLetters'. -/
def turnLettersCard : Claim7 := { stood := { row := turnLettersRow, standIns := [], harness := (true, "aebdae35645aef6ccfd0812b256e6e0d476360d7d615f88b547e43600cffa8b7"), looks := false }, kinds := [], alts := [], laidByText := true, laidKinds := [.data], laidTests := true, laidLooks := .later }
def TurnLettersCardSaid : Prop := Claim7.holds Tryz.pinned (.plain (OpenSpec.ofChange turnLettersSpec)) turnLettersCard

/-- THE TIED CARD OF 'reevelaw20.TurnNil'. -/
def turnNilCard : Claim7 := { stood := { row := turnNilRow, standIns := [], harness := (true, "aebdae35645aef6ccfd0812b256e6e0d476360d7d615f88b547e43600cffa8b7"), looks := false }, kinds := [], alts := [], laidByText := true, laidKinds := [.data], laidTests := true, laidLooks := .later }
def TurnNilCardSaid : Prop := Claim7.holds Tryz.pinned (.plain (OpenSpec.ofChange turnNilSpec)) turnNilCard

/-- THE TIED CARD OF 'reevelaw20.TurnCopies'. -/
def turnCopiesCard : Claim7 := { stood := { row := turnCopiesRow, standIns := [], harness := (true, "aebdae35645aef6ccfd0812b256e6e0d476360d7d615f88b547e43600cffa8b7"), looks := false }, kinds := [], alts := [], laidByText := true, laidKinds := [.data], laidTests := true, laidLooks := .later }
def TurnCopiesCardSaid : Prop := Claim7.holds Tryz.pinned (.plain (OpenSpec.ofChange turnCopiesSpec)) turnCopiesCard

/-- THE SECOND FORM's CARD OF 'reevelaw20.TurnTakes'. -/
def turnTakesUptoCard : Claim7 := { stood := { row := turnTakesUptoRow, standIns := [], harness := (true, "aebdae35645aef6ccfd0812b256e6e0d476360d7d615f88b547e43600cffa8b7"), looks := false }, kinds := [], alts := [], laidByText := true, laidKinds := [.data], laidTests := true, laidLooks := .later }
def TurnTakesUptoCardSaid : Prop := Claim7.holds Tryz.pinned (.plain (OpenSpec.upto turnTakesSpec)) turnTakesUptoCard

/-- THE SECOND FORM's CARD OF 'reevelaw20.TurnLetters'. -/
def turnLettersUptoCard : Claim7 := { stood := { row := turnLettersUptoRow, standIns := [], harness := (true, "aebdae35645aef6ccfd0812b256e6e0d476360d7d615f88b547e43600cffa8b7"), looks := false }, kinds := [], alts := [], laidByText := true, laidKinds := [.data], laidTests := true, laidLooks := .later }
def TurnLettersUptoCardSaid : Prop := Claim7.holds Tryz.pinned (.plain (OpenSpec.upto turnLettersSpec)) turnLettersUptoCard

/-- THE SECOND FORM's CARD OF 'reevelaw20.TurnNil'. -/
def turnNilUptoCard : Claim7 := { stood := { row := turnNilUptoRow, standIns := [], harness := (true, "aebdae35645aef6ccfd0812b256e6e0d476360d7d615f88b547e43600cffa8b7"), looks := false }, kinds := [], alts := [], laidByText := true, laidKinds := [.data], laidTests := true, laidLooks := .later }
def TurnNilUptoCardSaid : Prop := Claim7.holds Tryz.pinned (.plain (OpenSpec.upto turnNilSpec)) turnNilUptoCard

/-- THE SECOND FORM's CARD OF 'reevelaw20.TurnCopies'. -/
def turnCopiesUptoCard : Claim7 := { stood := { row := turnCopiesUptoRow, standIns := [], harness := (true, "aebdae35645aef6ccfd0812b256e6e0d476360d7d615f88b547e43600cffa8b7"), looks := false }, kinds := [], alts := [], laidByText := true, laidKinds := [.data], laidTests := true, laidLooks := .later }
def TurnCopiesUptoCardSaid : Prop := Claim7.holds Tryz.pinned (.plain (OpenSpec.upto turnCopiesSpec)) turnCopiesUptoCard
end Rows
end Go.Proofs.YtngnenbidpojeaaGreatDoor
