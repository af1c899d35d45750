/-
  DERIVED. GIVEN WITH THE SEED: THE CARDS: each row of YtiafhifbgdkgaaaGreatDoorRows.lean that lists a variable, with what it lists TIED to the program's text (the seventh form; the later family's looks); each row that meets fmt, with fmt's text TOLD by the authors' own Lean function (tested against real Go, not proved from fmt's source: count such statements apart). THE CARD IS WHAT COUNTS. Prove the row's statement (the work); the ties are given (YtiafhifbgdkgaaaGreatDoorTie.lean); close each card by the builder's one call (the guide's Derived/Test/ToyasCard.lean, 'card_holds'). Laid BY PROGRAM, IN A SANDBOX (cutbox-door.mjs). By AI agents, Wed Nov 11 2026. No macro, syntax, notation, axiom, sorry.
-/
import Derived.Test.YtiafhifbgdkgaaaGreatDoorRows
import GoSem.ClaimSeven
namespace Go.Proofs.YtiafhifbgdkgaaaGreatDoor
namespace Rows

/-- THE TIED CARD OF 'namedesklaw16.BidiMade'. -/
def bidiMadeCard : Claim7 := { stood := { row := bidiMadeRow, standIns := [], harness := (true, "9d742db91de45e700d35196aff40ce84283025b86fb439873e7365becda80ef2"), looks := false }, kinds := [], alts := [], laidByText := true, laidKinds := [.data], laidTests := true, laidLooks := .later }
def BidiMadeCardSaid : Prop := Claim7.holds Tryz.pinned (.plain (OpenSpec.ofChange bidiMadeSpec)) bidiMadeCard

/-- THE TIED CARD OF 'namedesklaw16.BidiOrder'. -/
def bidiOrderCard : Claim7 := { stood := { row := bidiOrderRow, standIns := [], harness := (true, "9d742db91de45e700d35196aff40ce84283025b86fb439873e7365becda80ef2"), looks := false }, kinds := [], alts := [], laidByText := true, laidKinds := [.data], laidTests := true, laidLooks := .later }
def BidiOrderCardSaid : Prop := Claim7.holds Tryz.pinned (.plain (OpenSpec.ofChange bidiOrderSpec)) bidiOrderCard

/-- THE SECOND FORM's CARD OF 'namedesklaw16.BidiMade'. -/
def bidiMadeUptoCard : Claim7 := { stood := { row := bidiMadeUptoRow, standIns := [], harness := (true, "9d742db91de45e700d35196aff40ce84283025b86fb439873e7365becda80ef2"), looks := false }, kinds := [], alts := [], laidByText := true, laidKinds := [.data], laidTests := true, laidLooks := .later }
def BidiMadeUptoCardSaid : Prop := Claim7.holds Tryz.pinned (.plain (OpenSpec.upto bidiMadeSpec)) bidiMadeUptoCard

/-- THE SECOND FORM's CARD OF 'namedesklaw16.BidiOrder'. -/
def bidiOrderUptoCard : Claim7 := { stood := { row := bidiOrderUptoRow, standIns := [], harness := (true, "9d742db91de45e700d35196aff40ce84283025b86fb439873e7365becda80ef2"), looks := false }, kinds := [], alts := [], laidByText := true, laidKinds := [.data], laidTests := true, laidLooks := .later }
def BidiOrderUptoCardSaid : Prop := Claim7.holds Tryz.pinned (.plain (OpenSpec.upto bidiOrderSpec)) bidiOrderUptoCard
end Rows
end Go.Proofs.YtiafhifbgdkgaaaGreatDoor
