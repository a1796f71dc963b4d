/-
  DERIVED. GIVEN WITH THE SEED: THE CARDS: each row of YtlkefcbkpohpgaaGreatDoorRows.lean that lists a variable, with what it lists TIED to the program's text (the seventh form; the later family's looks); each row that meets fmt, with fmt's text TOLD by the authors' own Lean function (tested against real Go, not proved from fmt's source: count such statements apart). THE CARD IS WHAT COUNTS. Prove the row's statement (the work); the ties are given (YtlkefcbkpohpgaaGreatDoorTie.lean); close each card by the builder's one call (the guide's Derived/Test/ToyasCard.lean, 'card_holds'). Laid BY PROGRAM, IN A SANDBOX (cutbox-door.mjs). By AI agents, Wed Nov 11 2026. No macro, syntax, notation, axiom, sorry.
-/
import Derived.Test.YtlkefcbkpohpgaaGreatDoorRows
import GoSem.ClaimSeven
namespace Go.Proofs.YtlkefcbkpohpgaaGreatDoor
namespace Rows

/-- THE TIED CARD OF 'innkeeperlaw08.ParserMatchesReference'. -/
def parserMatchesReferenceCard : Claim7 := { stood := { row := parserMatchesReferenceRow, standIns := [], harness := (true, "f30eabc0359e7b90c97f92bfa3ad564a9d8d604bc6dbc2328b11ff5c1c6711ea"), looks := true }, kinds := [], alts := [], laidByText := true, laidKinds := [.data, .data, .data, .data, .sentinel, .sentinel, .pinned], laidTests := true, laidLooks := .later }
def ParserMatchesReferenceCardSaid : Prop := Claim7.holds Tryz.pinned (.plain (OpenSpec.ofChange parserMatchesReferenceSpec)) parserMatchesReferenceCard

/-- THE TIED CARD OF 'innkeeperlaw08.ParserPrecedence'. -/
def parserPrecedenceCard : Claim7 := { stood := { row := parserPrecedenceRow, standIns := [], harness := (true, "f30eabc0359e7b90c97f92bfa3ad564a9d8d604bc6dbc2328b11ff5c1c6711ea"), looks := true }, kinds := [], alts := [], laidByText := true, laidKinds := [.data, .data, .data, .data, .sentinel, .sentinel, .pinned], laidTests := true, laidLooks := .later }
def ParserPrecedenceCardSaid : Prop := Claim7.holds Tryz.pinned (.plain (OpenSpec.ofChange parserPrecedenceSpec)) parserPrecedenceCard

/-- THE TIED CARD OF 'innkeeperlaw08.ParserNumbers'. -/
def parserNumbersCard : Claim7 := { stood := { row := parserNumbersRow, standIns := [], harness := (true, "f30eabc0359e7b90c97f92bfa3ad564a9d8d604bc6dbc2328b11ff5c1c6711ea"), looks := true }, kinds := [], alts := [], laidByText := true, laidKinds := [.data, .data, .data, .data, .sentinel, .sentinel, .pinned], laidTests := true, laidLooks := .later }
def ParserNumbersCardSaid : Prop := Claim7.holds Tryz.pinned (.plain (OpenSpec.ofChange parserNumbersSpec)) parserNumbersCard

/-- THE TIED CARD OF 'innkeeperlaw09.PrinterExprs'. -/
def printerExprsCard : Claim7 := { stood := { row := printerExprsRow, standIns := [], harness := (true, "f30eabc0359e7b90c97f92bfa3ad564a9d8d604bc6dbc2328b11ff5c1c6711ea"), looks := true }, kinds := [], alts := [], laidByText := true, laidKinds := [.data, .data, .data, .data, .sentinel, .sentinel, .data, .data, .pinned], laidTests := true, laidLooks := .later }
def PrinterExprsCardSaid : Prop := Claim7.holds Tryz.pinned (.plain (OpenSpec.ofChange printerExprsSpec)) printerExprsCard

/-- THE TIED CARD OF 'innkeeperlaw09.PrinterRates'. -/
def printerRatesCard : Claim7 := { stood := { row := printerRatesRow, standIns := [], harness := (true, "f30eabc0359e7b90c97f92bfa3ad564a9d8d604bc6dbc2328b11ff5c1c6711ea"), looks := true }, kinds := [], alts := [], laidByText := true, laidKinds := [.data, .data, .data, .data, .sentinel, .sentinel, .data, .data, .pinned], laidTests := true, laidLooks := .later }
def PrinterRatesCardSaid : Prop := Claim7.holds Tryz.pinned (.plain (OpenSpec.ofChange printerRatesSpec)) printerRatesCard

/-- THE TIED CARD OF 'innkeeperlaw09.PrinterOne'. -/
def printerOneCard : Claim7 := { stood := { row := printerOneRow, standIns := [], harness := (true, "f30eabc0359e7b90c97f92bfa3ad564a9d8d604bc6dbc2328b11ff5c1c6711ea"), looks := true }, kinds := [], alts := [], laidByText := true, laidKinds := [.data, .data, .data, .data, .sentinel, .sentinel, .data, .data, .pinned], laidTests := true, laidLooks := .later }
def PrinterOneCardSaid : Prop := Claim7.holds Tryz.pinned (.plain (OpenSpec.ofChange printerOneSpec)) printerOneCard

/-- THE SECOND FORM's CARD OF 'innkeeperlaw08.ParserMatchesReference'. -/
def parserMatchesReferenceUptoCard : Claim7 := { stood := { row := parserMatchesReferenceUptoRow, standIns := [], harness := (true, "f30eabc0359e7b90c97f92bfa3ad564a9d8d604bc6dbc2328b11ff5c1c6711ea"), looks := true }, kinds := [], alts := [], laidByText := true, laidKinds := [.data, .data, .data, .data, .sentinel, .sentinel, .pinned], laidTests := true, laidLooks := .later }
def ParserMatchesReferenceUptoCardSaid : Prop := Claim7.holds Tryz.pinned (.plain (OpenSpec.upto parserMatchesReferenceSpec)) parserMatchesReferenceUptoCard

/-- THE SECOND FORM's CARD OF 'innkeeperlaw08.ParserPrecedence'. -/
def parserPrecedenceUptoCard : Claim7 := { stood := { row := parserPrecedenceUptoRow, standIns := [], harness := (true, "f30eabc0359e7b90c97f92bfa3ad564a9d8d604bc6dbc2328b11ff5c1c6711ea"), looks := true }, kinds := [], alts := [], laidByText := true, laidKinds := [.data, .data, .data, .data, .sentinel, .sentinel, .pinned], laidTests := true, laidLooks := .later }
def ParserPrecedenceUptoCardSaid : Prop := Claim7.holds Tryz.pinned (.plain (OpenSpec.upto parserPrecedenceSpec)) parserPrecedenceUptoCard

/-- THE SECOND FORM's CARD OF 'innkeeperlaw08.ParserNumbers'. -/
def parserNumbersUptoCard : Claim7 := { stood := { row := parserNumbersUptoRow, standIns := [], harness := (true, "f30eabc0359e7b90c97f92bfa3ad564a9d8d604bc6dbc2328b11ff5c1c6711ea"), looks := true }, kinds := [], alts := [], laidByText := true, laidKinds := [.data, .data, .data, .data, .sentinel, .sentinel, .pinned], laidTests := true, laidLooks := .later }
def ParserNumbersUptoCardSaid : Prop := Claim7.holds Tryz.pinned (.plain (OpenSpec.upto parserNumbersSpec)) parserNumbersUptoCard

/-- THE SECOND FORM's CARD OF 'innkeeperlaw09.PrinterExprs'. -/
def printerExprsUptoCard : Claim7 := { stood := { row := printerExprsUptoRow, standIns := [], harness := (true, "f30eabc0359e7b90c97f92bfa3ad564a9d8d604bc6dbc2328b11ff5c1c6711ea"), looks := true }, kinds := [], alts := [], laidByText := true, laidKinds := [.data, .data, .data, .data, .sentinel, .sentinel, .data, .data, .pinned], laidTests := true, laidLooks := .later }
def PrinterExprsUptoCardSaid : Prop := Claim7.holds Tryz.pinned (.plain (OpenSpec.upto printerExprsSpec)) printerExprsUptoCard

/-- THE SECOND FORM's CARD OF 'innkeeperlaw09.PrinterRates'. -/
def printerRatesUptoCard : Claim7 := { stood := { row := printerRatesUptoRow, standIns := [], harness := (true, "f30eabc0359e7b90c97f92bfa3ad564a9d8d604bc6dbc2328b11ff5c1c6711ea"), looks := true }, kinds := [], alts := [], laidByText := true, laidKinds := [.data, .data, .data, .data, .sentinel, .sentinel, .data, .data, .pinned], laidTests := true, laidLooks := .later }
def PrinterRatesUptoCardSaid : Prop := Claim7.holds Tryz.pinned (.plain (OpenSpec.upto printerRatesSpec)) printerRatesUptoCard

/-- THE SECOND FORM's CARD OF 'innkeeperlaw09.PrinterOne'. -/
def printerOneUptoCard : Claim7 := { stood := { row := printerOneUptoRow, standIns := [], harness := (true, "f30eabc0359e7b90c97f92bfa3ad564a9d8d604bc6dbc2328b11ff5c1c6711ea"), looks := true }, kinds := [], alts := [], laidByText := true, laidKinds := [.data, .data, .data, .data, .sentinel, .sentinel, .data, .data, .pinned], laidTests := true, laidLooks := .later }
def PrinterOneUptoCardSaid : Prop := Claim7.holds Tryz.pinned (.plain (OpenSpec.upto printerOneSpec)) printerOneUptoCard
end Rows
end Go.Proofs.YtlkefcbkpohpgaaGreatDoor
