/-
  DERIVED. GIVEN WITH THE SEED: THE CARDS: each row of YtnmckcfaalakoaaGreatDoorRows.lean that lists a variable, with what it lists TIED to the program's text (the seventh form; the later family's looks); each row that meets fmt, with fmt's text TOLD by the authors' own Lean function (tested against real Go, not proved from fmt's source: count such statements apart). THE CARD IS WHAT COUNTS. Prove the row's statement (the work); the ties are given (YtnmckcfaalakoaaGreatDoorTie.lean); close each card by the builder's one call (the guide's Derived/Test/ToyasCard.lean, 'card_holds'). Laid BY PROGRAM, IN A SANDBOX (cutbox-door.mjs). By AI agents, Wed Nov 11 2026. No macro, syntax, notation, axiom, sorry.
-/
import Derived.Test.YtnmckcfaalakoaaGreatDoorRows
import GoSem.ClaimSeven
namespace Go.Proofs.YtnmckcfaalakoaaGreatDoor
namespace Rows

/-- THE TIED CARD OF 'namedesklaw13.MappingMade'. -/
def mappingMadeCard : Claim7 := { stood := { row := mappingMadeRow, standIns := [], harness := (true, "be5b078d26496c4d102eff82c06e1138c805f778311c6a33b557eb366fb9fd69"), looks := false }, kinds := [], alts := [], laidByText := true, laidKinds := [.data], laidTests := true, laidLooks := .later }
def MappingMadeCardSaid : Prop := Claim7.holds Tryz.pinned (.plain (OpenSpec.ofChange mappingMadeSpec)) mappingMadeCard

/-- THE TIED CARD OF 'namedesklaw13.MappingErrors'. -/
def mappingErrorsCard : Claim7 := { stood := { row := mappingErrorsRow, standIns := [], harness := (true, "be5b078d26496c4d102eff82c06e1138c805f778311c6a33b557eb366fb9fd69"), looks := false }, kinds := [], alts := [], laidByText := true, laidKinds := [.data], laidTests := true, laidLooks := .later }
def MappingErrorsCardSaid : Prop := Claim7.holds Tryz.pinned (.plain (OpenSpec.ofChange mappingErrorsSpec)) mappingErrorsCard

/-- THE SECOND FORM's CARD OF 'namedesklaw13.MappingMade'. -/
def mappingMadeUptoCard : Claim7 := { stood := { row := mappingMadeUptoRow, standIns := [], harness := (true, "be5b078d26496c4d102eff82c06e1138c805f778311c6a33b557eb366fb9fd69"), looks := false }, kinds := [], alts := [], laidByText := true, laidKinds := [.data], laidTests := true, laidLooks := .later }
def MappingMadeUptoCardSaid : Prop := Claim7.holds Tryz.pinned (.plain (OpenSpec.upto mappingMadeSpec)) mappingMadeUptoCard

/-- THE SECOND FORM's CARD OF 'namedesklaw13.MappingErrors'. -/
def mappingErrorsUptoCard : Claim7 := { stood := { row := mappingErrorsUptoRow, standIns := [], harness := (true, "be5b078d26496c4d102eff82c06e1138c805f778311c6a33b557eb366fb9fd69"), looks := false }, kinds := [], alts := [], laidByText := true, laidKinds := [.data], laidTests := true, laidLooks := .later }
def MappingErrorsUptoCardSaid : Prop := Claim7.holds Tryz.pinned (.plain (OpenSpec.upto mappingErrorsSpec)) mappingErrorsUptoCard
end Rows
end Go.Proofs.YtnmckcfaalakoaaGreatDoor
