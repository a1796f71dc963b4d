/-
  DERIVED. GIVEN WITH THE SEED: THE CARDS: each row of YtfnclecfldddeaaDoorRows.lean that lists a variable, with what it lists TIED to the program's text (the seventh form; the later family's looks); each row that meets fmt, with fmt's text TOLD by the authors' own Lean function (tested against real Go, not proved from fmt's source: count such statements apart). THE CARD IS WHAT COUNTS. Prove the row's statement (the work); the ties are given (YtfnclecfldddeaaDoorTie.lean); close each card by the builder's one call (the guide's Derived/Test/ToyasCard.lean, 'card_holds'). Laid BY PROGRAM, IN A SANDBOX (cutbox-door.mjs). By AI agents, Wed Nov 11 2026. No macro, syntax, notation, axiom, sorry.
-/
import Derived.Test.YtfnclecfldddeaaDoorRows
import GoSem.ClaimSeven
namespace Go.Proofs.YtfnclecfldddeaaDoor
namespace Rows

/-- THE TIED CARD OF 'innkeeperlaw07.LexerMatchesReference'. -/
def lexerMatchesReferenceCard : Claim7 := { stood := { row := lexerMatchesReferenceRow, standIns := [], harness := (true, "be65b2cf33e22a5981ee652cb980b2e6699375cd27621794f6b60c06888c233c"), looks := true }, kinds := [], alts := [], laidByText := true, laidKinds := [.data, .data, .data, .sentinel, .sentinel], laidTests := true, laidLooks := .later }
def LexerMatchesReferenceCardSaid : Prop := Claim7.holds Tryd.pinned (.plain (OpenSpec.ofChange lexerMatchesReferenceSpec)) lexerMatchesReferenceCard

/-- THE TIED CARD OF 'innkeeperlaw07.LexerInverse'. -/
def lexerInverseCard : Claim7 := { stood := { row := lexerInverseRow, standIns := [], harness := (true, "be65b2cf33e22a5981ee652cb980b2e6699375cd27621794f6b60c06888c233c"), looks := true }, kinds := [], alts := [], laidByText := true, laidKinds := [.data, .data, .data, .sentinel, .sentinel], laidTests := true, laidLooks := .later }
def LexerInverseCardSaid : Prop := Claim7.holds Tryd.pinned (.plain (OpenSpec.ofChange lexerInverseSpec)) lexerInverseCard

/-- THE TIED CARD OF 'innkeeperlaw07.LexerBlanks'. -/
def lexerBlanksCard : Claim7 := { stood := { row := lexerBlanksRow, standIns := [], harness := (true, "be65b2cf33e22a5981ee652cb980b2e6699375cd27621794f6b60c06888c233c"), looks := true }, kinds := [], alts := [], laidByText := true, laidKinds := [.data, .data, .data, .sentinel, .sentinel], laidTests := true, laidLooks := .later }
def LexerBlanksCardSaid : Prop := Claim7.holds Tryd.pinned (.plain (OpenSpec.ofChange lexerBlanksSpec)) lexerBlanksCard

/-- THE TIED CARD OF 'innkeeperlaw07.LexerParts'. -/
def lexerPartsCard : Claim7 := { stood := { row := lexerPartsRow, standIns := [], harness := (true, "be65b2cf33e22a5981ee652cb980b2e6699375cd27621794f6b60c06888c233c"), looks := true }, kinds := [], alts := [], laidByText := true, laidKinds := [.data, .data, .data, .sentinel, .sentinel], laidTests := true, laidLooks := .later }
def LexerPartsCardSaid : Prop := Claim7.holds Tryd.pinned (.plain (OpenSpec.ofChange lexerPartsSpec)) lexerPartsCard

/-- THE TIED CARD OF 'innkeeperlaw07.LexerKinds'. -/
def lexerKindsCard : Claim7 := { stood := { row := lexerKindsRow, standIns := [], harness := (true, "be65b2cf33e22a5981ee652cb980b2e6699375cd27621794f6b60c06888c233c"), looks := true }, kinds := [], alts := [], laidByText := true, laidKinds := [.data, .data, .data, .sentinel, .sentinel], laidTests := true, laidLooks := .later }
def LexerKindsCardSaid : Prop := Claim7.holds Tryd.pinned (.plain (OpenSpec.ofChange lexerKindsSpec)) lexerKindsCard

/-- THE SECOND FORM's CARD OF 'innkeeperlaw07.LexerMatchesReference'. -/
def lexerMatchesReferenceUptoCard : Claim7 := { stood := { row := lexerMatchesReferenceUptoRow, standIns := [], harness := (true, "be65b2cf33e22a5981ee652cb980b2e6699375cd27621794f6b60c06888c233c"), looks := true }, kinds := [], alts := [], laidByText := true, laidKinds := [.data, .data, .data, .sentinel, .sentinel], laidTests := true, laidLooks := .later }
def LexerMatchesReferenceUptoCardSaid : Prop := Claim7.holds Tryd.pinned (.plain (OpenSpec.upto lexerMatchesReferenceSpec)) lexerMatchesReferenceUptoCard

/-- THE SECOND FORM's CARD OF 'innkeeperlaw07.LexerInverse'. -/
def lexerInverseUptoCard : Claim7 := { stood := { row := lexerInverseUptoRow, standIns := [], harness := (true, "be65b2cf33e22a5981ee652cb980b2e6699375cd27621794f6b60c06888c233c"), looks := true }, kinds := [], alts := [], laidByText := true, laidKinds := [.data, .data, .data, .sentinel, .sentinel], laidTests := true, laidLooks := .later }
def LexerInverseUptoCardSaid : Prop := Claim7.holds Tryd.pinned (.plain (OpenSpec.upto lexerInverseSpec)) lexerInverseUptoCard

/-- THE SECOND FORM's CARD OF 'innkeeperlaw07.LexerBlanks'. -/
def lexerBlanksUptoCard : Claim7 := { stood := { row := lexerBlanksUptoRow, standIns := [], harness := (true, "be65b2cf33e22a5981ee652cb980b2e6699375cd27621794f6b60c06888c233c"), looks := true }, kinds := [], alts := [], laidByText := true, laidKinds := [.data, .data, .data, .sentinel, .sentinel], laidTests := true, laidLooks := .later }
def LexerBlanksUptoCardSaid : Prop := Claim7.holds Tryd.pinned (.plain (OpenSpec.upto lexerBlanksSpec)) lexerBlanksUptoCard

/-- THE SECOND FORM's CARD OF 'innkeeperlaw07.LexerParts'. -/
def lexerPartsUptoCard : Claim7 := { stood := { row := lexerPartsUptoRow, standIns := [], harness := (true, "be65b2cf33e22a5981ee652cb980b2e6699375cd27621794f6b60c06888c233c"), looks := true }, kinds := [], alts := [], laidByText := true, laidKinds := [.data, .data, .data, .sentinel, .sentinel], laidTests := true, laidLooks := .later }
def LexerPartsUptoCardSaid : Prop := Claim7.holds Tryd.pinned (.plain (OpenSpec.upto lexerPartsSpec)) lexerPartsUptoCard

/-- THE SECOND FORM's CARD OF 'innkeeperlaw07.LexerKinds'. -/
def lexerKindsUptoCard : Claim7 := { stood := { row := lexerKindsUptoRow, standIns := [], harness := (true, "be65b2cf33e22a5981ee652cb980b2e6699375cd27621794f6b60c06888c233c"), looks := true }, kinds := [], alts := [], laidByText := true, laidKinds := [.data, .data, .data, .sentinel, .sentinel], laidTests := true, laidLooks := .later }
def LexerKindsUptoCardSaid : Prop := Claim7.holds Tryd.pinned (.plain (OpenSpec.upto lexerKindsSpec)) lexerKindsUptoCard
end Rows
end Go.Proofs.YtfnclecfldddeaaDoor
