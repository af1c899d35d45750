/-
  DERIVED. GIVEN WITH THE SEED: THE CARDS: each row of YtnmckcfaalakoaaDoorRows.lean that lists a variable, with what it lists TIED to the program's text (the seventh form; the later family's looks); each row that meets fmt, with fmt's text TOLD by the authors' own Lean function (tested against real Go, not proved from fmt's source: count such statements apart). THE CARD IS WHAT COUNTS. Prove the row's statement (the work); the ties are given (YtnmckcfaalakoaaDoorTie.lean); close each card by the builder's one call (the guide's Derived/Test/ToyasCard.lean, 'card_holds'). Laid BY PROGRAM, IN A SANDBOX (cutbox-door.mjs). By AI agents, Wed Nov 11 2026. No macro, syntax, notation, axiom, sorry.
-/
import Derived.Test.YtnmckcfaalakoaaDoorRows
import GoSem.ClaimSeven
namespace Go.Proofs.YtnmckcfaalakoaaDoor
namespace Rows

/-- THE TIED CARD OF 'namedesklaw13.MappingTwice'. -/
def mappingTwiceCard : Claim7 := { stood := { row := mappingTwiceRow, standIns := [], harness := (true, "6cf86f4c592fdadf8521b9ea86fb06bd6589709909cb45993a3e6d6357769015"), looks := false }, kinds := [], alts := [], laidByText := true, laidKinds := [.data], laidTests := true, laidLooks := .later }
def MappingTwiceCardSaid : Prop := Claim7.holds Tryd.pinned (.plain (OpenSpec.ofChange mappingTwiceSpec)) mappingTwiceCard

/-- THE TIED CARD OF 'namedesklaw13.MappingConcatenation'. -/
def mappingConcatenationCard : Claim7 := { stood := { row := mappingConcatenationRow, standIns := [], harness := (true, "6cf86f4c592fdadf8521b9ea86fb06bd6589709909cb45993a3e6d6357769015"), looks := false }, kinds := [], alts := [], laidByText := true, laidKinds := [.data], laidTests := true, laidLooks := .later }
def MappingConcatenationCardSaid : Prop := Claim7.holds Tryd.pinned (.plain (OpenSpec.ofChange mappingConcatenationSpec)) mappingConcatenationCard

/-- THE TIED CARD OF 'namedesklaw13.MappingPermitted'. -/
def mappingPermittedCard : Claim7 := { stood := { row := mappingPermittedRow, standIns := [], harness := (true, "6cf86f4c592fdadf8521b9ea86fb06bd6589709909cb45993a3e6d6357769015"), looks := false }, kinds := [], alts := [], laidByText := true, laidKinds := [.data], laidTests := true, laidLooks := .later }
def MappingPermittedCardSaid : Prop := Claim7.holds Tryd.pinned (.plain (OpenSpec.ofChange mappingPermittedSpec)) mappingPermittedCard

/-- THE TIED CARD OF 'namedesklaw13.MappingLetters'. -/
def mappingLettersCard : Claim7 := { stood := { row := mappingLettersRow, standIns := [], harness := (true, "6cf86f4c592fdadf8521b9ea86fb06bd6589709909cb45993a3e6d6357769015"), looks := false }, kinds := [], alts := [], laidByText := true, laidKinds := [.data], laidTests := true, laidLooks := .later }
def MappingLettersCardSaid : Prop := Claim7.holds Tryd.pinned (.plain (OpenSpec.ofChange mappingLettersSpec)) mappingLettersCard

/-- THE TIED CARD OF 'namedesklaw13.MappingFull'. -/
def mappingFullCard : Claim7 := { stood := { row := mappingFullRow, standIns := [], harness := (true, "6cf86f4c592fdadf8521b9ea86fb06bd6589709909cb45993a3e6d6357769015"), looks := false }, kinds := [], alts := [], laidByText := true, laidKinds := [.data], laidTests := true, laidLooks := .later }
def MappingFullCardSaid : Prop := Claim7.holds Tryd.pinned (.plain (OpenSpec.ofChange mappingFullSpec)) mappingFullCard

/-- THE SECOND FORM's CARD OF 'namedesklaw13.MappingTwice'. -/
def mappingTwiceUptoCard : Claim7 := { stood := { row := mappingTwiceUptoRow, standIns := [], harness := (true, "6cf86f4c592fdadf8521b9ea86fb06bd6589709909cb45993a3e6d6357769015"), looks := false }, kinds := [], alts := [], laidByText := true, laidKinds := [.data], laidTests := true, laidLooks := .later }
def MappingTwiceUptoCardSaid : Prop := Claim7.holds Tryd.pinned (.plain (OpenSpec.upto mappingTwiceSpec)) mappingTwiceUptoCard

/-- THE SECOND FORM's CARD OF 'namedesklaw13.MappingConcatenation'. -/
def mappingConcatenationUptoCard : Claim7 := { stood := { row := mappingConcatenationUptoRow, standIns := [], harness := (true, "6cf86f4c592fdadf8521b9ea86fb06bd6589709909cb45993a3e6d6357769015"), looks := false }, kinds := [], alts := [], laidByText := true, laidKinds := [.data], laidTests := true, laidLooks := .later }
def MappingConcatenationUptoCardSaid : Prop := Claim7.holds Tryd.pinned (.plain (OpenSpec.upto mappingConcatenationSpec)) mappingConcatenationUptoCard

/-- THE SECOND FORM's CARD OF 'namedesklaw13.MappingPermitted'. -/
def mappingPermittedUptoCard : Claim7 := { stood := { row := mappingPermittedUptoRow, standIns := [], harness := (true, "6cf86f4c592fdadf8521b9ea86fb06bd6589709909cb45993a3e6d6357769015"), looks := false }, kinds := [], alts := [], laidByText := true, laidKinds := [.data], laidTests := true, laidLooks := .later }
def MappingPermittedUptoCardSaid : Prop := Claim7.holds Tryd.pinned (.plain (OpenSpec.upto mappingPermittedSpec)) mappingPermittedUptoCard

/-- THE SECOND FORM's CARD OF 'namedesklaw13.MappingLetters'. -/
def mappingLettersUptoCard : Claim7 := { stood := { row := mappingLettersUptoRow, standIns := [], harness := (true, "6cf86f4c592fdadf8521b9ea86fb06bd6589709909cb45993a3e6d6357769015"), looks := false }, kinds := [], alts := [], laidByText := true, laidKinds := [.data], laidTests := true, laidLooks := .later }
def MappingLettersUptoCardSaid : Prop := Claim7.holds Tryd.pinned (.plain (OpenSpec.upto mappingLettersSpec)) mappingLettersUptoCard

/-- THE SECOND FORM's CARD OF 'namedesklaw13.MappingFull'. -/
def mappingFullUptoCard : Claim7 := { stood := { row := mappingFullUptoRow, standIns := [], harness := (true, "6cf86f4c592fdadf8521b9ea86fb06bd6589709909cb45993a3e6d6357769015"), looks := false }, kinds := [], alts := [], laidByText := true, laidKinds := [.data], laidTests := true, laidLooks := .later }
def MappingFullUptoCardSaid : Prop := Claim7.holds Tryd.pinned (.plain (OpenSpec.upto mappingFullSpec)) mappingFullUptoCard
end Rows
end Go.Proofs.YtnmckcfaalakoaaDoor
