/-
  DERIVED. GIVEN WITH THE SEED: THE CARDS: each row of YtpodoiichpnpjaaDoorRows.lean that lists a variable, with what it lists TIED to the program's text (the seventh form; the later family's looks); each row that meets fmt, with fmt's text TOLD by the authors' own Lean function (tested against real Go, not proved from fmt's source: count such statements apart). THE CARD IS WHAT COUNTS. Prove the row's statement (the work); the ties are given (YtpodoiichpnpjaaDoorTie.lean); close each card by the builder's one call (the guide's Derived/Test/ToyasCard.lean, 'card_holds'). Laid BY PROGRAM, IN A SANDBOX (cutbox-door.mjs). By AI agents, Wed Nov 11 2026. No macro, syntax, notation, axiom, sorry.
-/
import Derived.Test.YtpodoiichpnpjaaDoorRows
import GoSem.ClaimSeven
namespace Go.Proofs.YtpodoiichpnpjaaDoor
namespace Rows

/-- THE TIED CARD OF 'reevelaw18.InterpRuns'. -/
def interpRunsCard : Claim7 := { stood := { row := interpRunsRow, standIns := [], harness := (true, "dc66234e1f84b0d7852d4f220dcff3b428c0b68347e7b2b3ea58937a0be54946"), looks := false }, kinds := [], alts := [], laidByText := true, laidKinds := [.data], laidTests := true, laidLooks := .later }
def InterpRunsCardSaid : Prop := Claim7.holds Tryd.pinned (.plain (OpenSpec.ofChange interpRunsSpec)) interpRunsCard

/-- THE TIED CARD OF 'reevelaw18.InterpEvents'. -/
def interpEventsCard : Claim7 := { stood := { row := interpEventsRow, standIns := [], harness := (true, "dc66234e1f84b0d7852d4f220dcff3b428c0b68347e7b2b3ea58937a0be54946"), looks := false }, kinds := [], alts := [], laidByText := true, laidKinds := [.data], laidTests := true, laidLooks := .later }
def InterpEventsCardSaid : Prop := Claim7.holds Tryd.pinned (.plain (OpenSpec.ofChange interpEventsSpec)) interpEventsCard

/-- THE TIED CARD OF 'reevelaw18.InterpLoops'. -/
def interpLoopsCard : Claim7 := { stood := { row := interpLoopsRow, standIns := [], harness := (true, "dc66234e1f84b0d7852d4f220dcff3b428c0b68347e7b2b3ea58937a0be54946"), looks := false }, kinds := [], alts := [], laidByText := true, laidKinds := [.data], laidTests := true, laidLooks := .later }
def InterpLoopsCardSaid : Prop := Claim7.holds Tryd.pinned (.plain (OpenSpec.ofChange interpLoopsSpec)) interpLoopsCard

/-- THE TIED CARD OF 'reevelaw18.InterpStack'. -/
def interpStackCard : Claim7 := { stood := { row := interpStackRow, standIns := [], harness := (true, "dc66234e1f84b0d7852d4f220dcff3b428c0b68347e7b2b3ea58937a0be54946"), looks := false }, kinds := [], alts := [], laidByText := true, laidKinds := [.data], laidTests := true, laidLooks := .later }
def InterpStackCardSaid : Prop := Claim7.holds Tryd.pinned (.plain (OpenSpec.ofChange interpStackSpec)) interpStackCard

/-- THE TIED CARD OF 'reevelaw18.InterpSends'. -/
def interpSendsCard : Claim7 := { stood := { row := interpSendsRow, standIns := [], harness := (true, "dc66234e1f84b0d7852d4f220dcff3b428c0b68347e7b2b3ea58937a0be54946"), looks := false }, kinds := [], alts := [], laidByText := true, laidKinds := [.data], laidTests := true, laidLooks := .later }
def InterpSendsCardSaid : Prop := Claim7.holds Tryd.pinned (.plain (OpenSpec.ofChange interpSendsSpec)) interpSendsCard

/-- THE TIED CARD OF 'reevelaw18.InterpTimers'. -/
def interpTimersCard : Claim7 := { stood := { row := interpTimersRow, standIns := [], harness := (true, "dc66234e1f84b0d7852d4f220dcff3b428c0b68347e7b2b3ea58937a0be54946"), looks := false }, kinds := [], alts := [], laidByText := true, laidKinds := [.data], laidTests := true, laidLooks := .later }
def InterpTimersCardSaid : Prop := Claim7.holds Tryd.pinned (.plain (OpenSpec.ofChange interpTimersSpec)) interpTimersCard

/-- THE SECOND FORM's CARD OF 'reevelaw18.InterpRuns'. -/
def interpRunsUptoCard : Claim7 := { stood := { row := interpRunsUptoRow, standIns := [], harness := (true, "dc66234e1f84b0d7852d4f220dcff3b428c0b68347e7b2b3ea58937a0be54946"), looks := false }, kinds := [], alts := [], laidByText := true, laidKinds := [.data], laidTests := true, laidLooks := .later }
def InterpRunsUptoCardSaid : Prop := Claim7.holds Tryd.pinned (.plain (OpenSpec.upto interpRunsSpec)) interpRunsUptoCard

/-- THE SECOND FORM's CARD OF 'reevelaw18.InterpEvents'. -/
def interpEventsUptoCard : Claim7 := { stood := { row := interpEventsUptoRow, standIns := [], harness := (true, "dc66234e1f84b0d7852d4f220dcff3b428c0b68347e7b2b3ea58937a0be54946"), looks := false }, kinds := [], alts := [], laidByText := true, laidKinds := [.data], laidTests := true, laidLooks := .later }
def InterpEventsUptoCardSaid : Prop := Claim7.holds Tryd.pinned (.plain (OpenSpec.upto interpEventsSpec)) interpEventsUptoCard

/-- THE SECOND FORM's CARD OF 'reevelaw18.InterpLoops'. -/
def interpLoopsUptoCard : Claim7 := { stood := { row := interpLoopsUptoRow, standIns := [], harness := (true, "dc66234e1f84b0d7852d4f220dcff3b428c0b68347e7b2b3ea58937a0be54946"), looks := false }, kinds := [], alts := [], laidByText := true, laidKinds := [.data], laidTests := true, laidLooks := .later }
def InterpLoopsUptoCardSaid : Prop := Claim7.holds Tryd.pinned (.plain (OpenSpec.upto interpLoopsSpec)) interpLoopsUptoCard

/-- THE SECOND FORM's CARD OF 'reevelaw18.InterpStack'. -/
def interpStackUptoCard : Claim7 := { stood := { row := interpStackUptoRow, standIns := [], harness := (true, "dc66234e1f84b0d7852d4f220dcff3b428c0b68347e7b2b3ea58937a0be54946"), looks := false }, kinds := [], alts := [], laidByText := true, laidKinds := [.data], laidTests := true, laidLooks := .later }
def InterpStackUptoCardSaid : Prop := Claim7.holds Tryd.pinned (.plain (OpenSpec.upto interpStackSpec)) interpStackUptoCard

/-- THE SECOND FORM's CARD OF 'reevelaw18.InterpSends'. -/
def interpSendsUptoCard : Claim7 := { stood := { row := interpSendsUptoRow, standIns := [], harness := (true, "dc66234e1f84b0d7852d4f220dcff3b428c0b68347e7b2b3ea58937a0be54946"), looks := false }, kinds := [], alts := [], laidByText := true, laidKinds := [.data], laidTests := true, laidLooks := .later }
def InterpSendsUptoCardSaid : Prop := Claim7.holds Tryd.pinned (.plain (OpenSpec.upto interpSendsSpec)) interpSendsUptoCard

/-- THE SECOND FORM's CARD OF 'reevelaw18.InterpTimers'. -/
def interpTimersUptoCard : Claim7 := { stood := { row := interpTimersUptoRow, standIns := [], harness := (true, "dc66234e1f84b0d7852d4f220dcff3b428c0b68347e7b2b3ea58937a0be54946"), looks := false }, kinds := [], alts := [], laidByText := true, laidKinds := [.data], laidTests := true, laidLooks := .later }
def InterpTimersUptoCardSaid : Prop := Claim7.holds Tryd.pinned (.plain (OpenSpec.upto interpTimersSpec)) interpTimersUptoCard
end Rows
end Go.Proofs.YtpodoiichpnpjaaDoor
