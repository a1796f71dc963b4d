/-
  DERIVED. GIVEN WITH THE SEED: THE CARDS: each row of YtlkefcbkpohpgaaDoorRows.lean that lists a variable, with what it lists TIED to the program's text (the seventh form; the later family's looks); each row that meets fmt, with fmt's text TOLD by the authors' own Lean function (tested against real Go, not proved from fmt's source: count such statements apart). THE CARD IS WHAT COUNTS. Prove the row's statement (the work); the ties are given (YtlkefcbkpohpgaaDoorTie.lean); close each card by the builder's one call (the guide's Derived/Test/ToyasCard.lean, 'card_holds'). Laid BY PROGRAM, IN A SANDBOX (cutbox-door.mjs). By AI agents, Wed Nov 11 2026. No macro, syntax, notation, axiom, sorry.
-/
import Derived.Test.YtlkefcbkpohpgaaDoorRows
import GoSem.ClaimSeven
namespace Go.Proofs.YtlkefcbkpohpgaaDoor
namespace Rows

/-- THE TIED CARD OF 'innkeeperlaw09.PrinterMatchesReference'. -/
def printerMatchesReferenceCard : Claim7 := { stood := { row := printerMatchesReferenceRow, standIns := [], harness := (true, "aa36927a170c7f283670ffe511275f8dea537bb11413a0a8318b2a4f3545a2bd"), looks := false }, kinds := [], alts := [], laidByText := true, laidKinds := [.data, .data, .data, .data, .data], laidTests := true, laidLooks := .later }
def PrinterMatchesReferenceCardSaid : Prop := Claim7.holds Tryd.pinned (.plain (OpenSpec.ofChange printerMatchesReferenceSpec)) printerMatchesReferenceCard

/-- THE TIED CARD OF 'innkeeperlaw09.PrinterBrackets'. -/
def printerBracketsCard : Claim7 := { stood := { row := printerBracketsRow, standIns := [], harness := (true, "aa36927a170c7f283670ffe511275f8dea537bb11413a0a8318b2a4f3545a2bd"), looks := false }, kinds := [], alts := [], laidByText := true, laidKinds := [.data, .data, .data, .data, .data], laidTests := true, laidLooks := .later }
def PrinterBracketsCardSaid : Prop := Claim7.holds Tryd.pinned (.plain (OpenSpec.ofChange printerBracketsSpec)) printerBracketsCard

/-- THE TIED CARD OF 'innkeeperlaw09.PrinterDifferent'. -/
def printerDifferentCard : Claim7 := { stood := { row := printerDifferentRow, standIns := [], harness := (true, "aa36927a170c7f283670ffe511275f8dea537bb11413a0a8318b2a4f3545a2bd"), looks := false }, kinds := [], alts := [], laidByText := true, laidKinds := [.data, .data, .data, .data, .data], laidTests := true, laidLooks := .later }
def PrinterDifferentCardSaid : Prop := Claim7.holds Tryd.pinned (.plain (OpenSpec.ofChange printerDifferentSpec)) printerDifferentCard

/-- THE TIED CARD OF 'innkeeperlaw09.PrinterParts'. -/
def printerPartsCard : Claim7 := { stood := { row := printerPartsRow, standIns := [], harness := (true, "aa36927a170c7f283670ffe511275f8dea537bb11413a0a8318b2a4f3545a2bd"), looks := false }, kinds := [], alts := [], laidByText := true, laidKinds := [.data, .data, .data, .data, .data], laidTests := true, laidLooks := .later }
def PrinterPartsCardSaid : Prop := Claim7.holds Tryd.pinned (.plain (OpenSpec.ofChange printerPartsSpec)) printerPartsCard

/-- THE SECOND FORM's CARD OF 'innkeeperlaw09.PrinterMatchesReference'. -/
def printerMatchesReferenceUptoCard : Claim7 := { stood := { row := printerMatchesReferenceUptoRow, standIns := [], harness := (true, "aa36927a170c7f283670ffe511275f8dea537bb11413a0a8318b2a4f3545a2bd"), looks := false }, kinds := [], alts := [], laidByText := true, laidKinds := [.data, .data, .data, .data, .data], laidTests := true, laidLooks := .later }
def PrinterMatchesReferenceUptoCardSaid : Prop := Claim7.holds Tryd.pinned (.plain (OpenSpec.upto printerMatchesReferenceSpec)) printerMatchesReferenceUptoCard

/-- THE SECOND FORM's CARD OF 'innkeeperlaw09.PrinterBrackets'. -/
def printerBracketsUptoCard : Claim7 := { stood := { row := printerBracketsUptoRow, standIns := [], harness := (true, "aa36927a170c7f283670ffe511275f8dea537bb11413a0a8318b2a4f3545a2bd"), looks := false }, kinds := [], alts := [], laidByText := true, laidKinds := [.data, .data, .data, .data, .data], laidTests := true, laidLooks := .later }
def PrinterBracketsUptoCardSaid : Prop := Claim7.holds Tryd.pinned (.plain (OpenSpec.upto printerBracketsSpec)) printerBracketsUptoCard

/-- THE SECOND FORM's CARD OF 'innkeeperlaw09.PrinterDifferent'. -/
def printerDifferentUptoCard : Claim7 := { stood := { row := printerDifferentUptoRow, standIns := [], harness := (true, "aa36927a170c7f283670ffe511275f8dea537bb11413a0a8318b2a4f3545a2bd"), looks := false }, kinds := [], alts := [], laidByText := true, laidKinds := [.data, .data, .data, .data, .data], laidTests := true, laidLooks := .later }
def PrinterDifferentUptoCardSaid : Prop := Claim7.holds Tryd.pinned (.plain (OpenSpec.upto printerDifferentSpec)) printerDifferentUptoCard

/-- THE SECOND FORM's CARD OF 'innkeeperlaw09.PrinterParts'. -/
def printerPartsUptoCard : Claim7 := { stood := { row := printerPartsUptoRow, standIns := [], harness := (true, "aa36927a170c7f283670ffe511275f8dea537bb11413a0a8318b2a4f3545a2bd"), looks := false }, kinds := [], alts := [], laidByText := true, laidKinds := [.data, .data, .data, .data, .data], laidTests := true, laidLooks := .later }
def PrinterPartsUptoCardSaid : Prop := Claim7.holds Tryd.pinned (.plain (OpenSpec.upto printerPartsSpec)) printerPartsUptoCard
end Rows
end Go.Proofs.YtlkefcbkpohpgaaDoor
