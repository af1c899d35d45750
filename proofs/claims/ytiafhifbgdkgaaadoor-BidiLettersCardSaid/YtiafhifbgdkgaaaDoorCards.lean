/-
  DERIVED. GIVEN WITH THE SEED: THE CARDS: each row of YtiafhifbgdkgaaaDoorRows.lean that lists a variable, with what it lists TIED to the program's text (the seventh form; the later family's looks); each row that meets fmt, with fmt's text TOLD by the authors' own Lean function (tested against real Go, not proved from fmt's source: count such statements apart). THE CARD IS WHAT COUNTS. Prove the row's statement (the work); the ties are given (YtiafhifbgdkgaaaDoorTie.lean); close each card by the builder's one call (the guide's Derived/Test/ToyasCard.lean, 'card_holds'). Laid BY PROGRAM, IN A SANDBOX (cutbox-door.mjs). By AI agents, Wed Nov 11 2026. No macro, syntax, notation, axiom, sorry.
-/
import Derived.Test.YtiafhifbgdkgaaaDoorRows
import GoSem.ClaimSeven
namespace Go.Proofs.YtiafhifbgdkgaaaDoor
namespace Rows

/-- THE TIED CARD OF 'namedesklaw16.BidiConditions'. -/
def bidiConditionsCard : Claim7 := { stood := { row := bidiConditionsRow, standIns := [], harness := (true, "ee902b22ded30e38f00370cb9491b84757feadf7f99349053048f22322eccf36"), looks := false }, kinds := [], alts := [], laidByText := true, laidKinds := [.data], laidTests := true, laidLooks := .later }
def BidiConditionsCardSaid : Prop := Claim7.holds Tryd.pinned (.plain (OpenSpec.ofChange bidiConditionsSpec)) bidiConditionsCard

/-- THE TIED CARD OF 'namedesklaw16.BidiMarks'. -/
def bidiMarksCard : Claim7 := { stood := { row := bidiMarksRow, standIns := [], harness := (true, "ee902b22ded30e38f00370cb9491b84757feadf7f99349053048f22322eccf36"), looks := false }, kinds := [], alts := [], laidByText := true, laidKinds := [.data], laidTests := true, laidLooks := .later }
def BidiMarksCardSaid : Prop := Claim7.holds Tryd.pinned (.plain (OpenSpec.ofChange bidiMarksSpec)) bidiMarksCard

/-- THE TIED CARD OF 'namedesklaw16.BidiLetters'. -/
def bidiLettersCard : Claim7 := { stood := { row := bidiLettersRow, standIns := [], harness := (true, "ee902b22ded30e38f00370cb9491b84757feadf7f99349053048f22322eccf36"), looks := false }, kinds := [], alts := [], laidByText := true, laidKinds := [.data], laidTests := true, laidLooks := .later }
def BidiLettersCardSaid : Prop := Claim7.holds Tryd.pinned (.plain (OpenSpec.ofChange bidiLettersSpec)) bidiLettersCard

/-- THE SECOND FORM's CARD OF 'namedesklaw16.BidiConditions'. -/
def bidiConditionsUptoCard : Claim7 := { stood := { row := bidiConditionsUptoRow, standIns := [], harness := (true, "ee902b22ded30e38f00370cb9491b84757feadf7f99349053048f22322eccf36"), looks := false }, kinds := [], alts := [], laidByText := true, laidKinds := [.data], laidTests := true, laidLooks := .later }
def BidiConditionsUptoCardSaid : Prop := Claim7.holds Tryd.pinned (.plain (OpenSpec.upto bidiConditionsSpec)) bidiConditionsUptoCard

/-- THE SECOND FORM's CARD OF 'namedesklaw16.BidiMarks'. -/
def bidiMarksUptoCard : Claim7 := { stood := { row := bidiMarksUptoRow, standIns := [], harness := (true, "ee902b22ded30e38f00370cb9491b84757feadf7f99349053048f22322eccf36"), looks := false }, kinds := [], alts := [], laidByText := true, laidKinds := [.data], laidTests := true, laidLooks := .later }
def BidiMarksUptoCardSaid : Prop := Claim7.holds Tryd.pinned (.plain (OpenSpec.upto bidiMarksSpec)) bidiMarksUptoCard

/-- THE SECOND FORM's CARD OF 'namedesklaw16.BidiLetters'. -/
def bidiLettersUptoCard : Claim7 := { stood := { row := bidiLettersUptoRow, standIns := [], harness := (true, "ee902b22ded30e38f00370cb9491b84757feadf7f99349053048f22322eccf36"), looks := false }, kinds := [], alts := [], laidByText := true, laidKinds := [.data], laidTests := true, laidLooks := .later }
def BidiLettersUptoCardSaid : Prop := Claim7.holds Tryd.pinned (.plain (OpenSpec.upto bidiLettersSpec)) bidiLettersUptoCard
end Rows
end Go.Proofs.YtiafhifbgdkgaaaDoor
