/-
  DERIVED. GIVEN WITH THE SEED: THE CARDS: each row of YtopaojjodkoidaaGreatDoorRows.lean that lists a variable, with what it lists TIED to the program's text (the seventh form; the later family's looks); each row that meets fmt, with fmt's text TOLD by the authors' own Lean function (tested against real Go, not proved from fmt's source: count such statements apart). THE CARD IS WHAT COUNTS. Prove the row's statement (the work); the ties are given (YtopaojjodkoidaaGreatDoorTie.lean); close each card by the builder's one call (the guide's Derived/Test/ToyasCard.lean, 'card_holds'). Laid BY PROGRAM, IN A SANDBOX (cutbox-door.mjs). By AI agents, Wed Nov 11 2026. No macro, syntax, notation, axiom, sorry.
-/
import Derived.Test.YtopaojjodkoidaaGreatDoorRows
import GoSem.ClaimSeven
namespace Go.Proofs.YtopaojjodkoidaaGreatDoor
namespace Rows

/-- THE TIED CARD OF 'namedesklaw17.ValidMade'. -/
def validMadeCard : Claim7 := { stood := { row := validMadeRow, standIns := [], harness := (true, "d7f9209fcc1d29bb22a26f690f1de61664a12b0a03870c55f953904171ed41fc"), looks := false }, kinds := [], alts := [], laidByText := true, laidKinds := [.data], laidTests := true, laidLooks := .later }
def ValidMadeCardSaid : Prop := Claim7.holds Tryz.pinned (.plain (OpenSpec.ofChange validMadeSpec)) validMadeCard

/-- THE TIED CARD OF 'namedesklaw17.ValidErrors'. -/
def validErrorsCard : Claim7 := { stood := { row := validErrorsRow, standIns := [], harness := (true, "d7f9209fcc1d29bb22a26f690f1de61664a12b0a03870c55f953904171ed41fc"), looks := false }, kinds := [], alts := [], laidByText := true, laidKinds := [.data], laidTests := true, laidLooks := .later }
def ValidErrorsCardSaid : Prop := Claim7.holds Tryz.pinned (.plain (OpenSpec.ofChange validErrorsSpec)) validErrorsCard

/-- THE TIED CARD OF 'namedesklaw17.ValidHyphens'. -/
def validHyphensCard : Claim7 := { stood := { row := validHyphensRow, standIns := [], harness := (true, "d7f9209fcc1d29bb22a26f690f1de61664a12b0a03870c55f953904171ed41fc"), looks := false }, kinds := [], alts := [], laidByText := true, laidKinds := [.data], laidTests := true, laidLooks := .later }
def ValidHyphensCardSaid : Prop := Claim7.holds Tryz.pinned (.plain (OpenSpec.ofChange validHyphensSpec)) validHyphensCard

/-- THE TIED CARD OF 'namedesklaw17.ValidNormal'. -/
def validNormalCard : Claim7 := { stood := { row := validNormalRow, standIns := [], harness := (true, "d7f9209fcc1d29bb22a26f690f1de61664a12b0a03870c55f953904171ed41fc"), looks := false }, kinds := [], alts := [], laidByText := true, laidKinds := [.data], laidTests := true, laidLooks := .later }
def ValidNormalCardSaid : Prop := Claim7.holds Tryz.pinned (.plain (OpenSpec.ofChange validNormalSpec)) validNormalCard

/-- THE TIED CARD OF 'namedesklaw17.ValidLetters'. -/
def validLettersCard : Claim7 := { stood := { row := validLettersRow, standIns := [], harness := (true, "d7f9209fcc1d29bb22a26f690f1de61664a12b0a03870c55f953904171ed41fc"), looks := false }, kinds := [], alts := [], laidByText := true, laidKinds := [.data], laidTests := true, laidLooks := .later }
def ValidLettersCardSaid : Prop := Claim7.holds Tryz.pinned (.plain (OpenSpec.ofChange validLettersSpec)) validLettersCard

/-- THE TIED CARD OF 'namedesklaw17.ValidOrder'. -/
def validOrderCard : Claim7 := { stood := { row := validOrderRow, standIns := [], harness := (true, "d7f9209fcc1d29bb22a26f690f1de61664a12b0a03870c55f953904171ed41fc"), looks := false }, kinds := [], alts := [], laidByText := true, laidKinds := [.data], laidTests := true, laidLooks := .later }
def ValidOrderCardSaid : Prop := Claim7.holds Tryz.pinned (.plain (OpenSpec.ofChange validOrderSpec)) validOrderCard

/-- THE SECOND FORM's CARD OF 'namedesklaw17.ValidMade'. -/
def validMadeUptoCard : Claim7 := { stood := { row := validMadeUptoRow, standIns := [], harness := (true, "d7f9209fcc1d29bb22a26f690f1de61664a12b0a03870c55f953904171ed41fc"), looks := false }, kinds := [], alts := [], laidByText := true, laidKinds := [.data], laidTests := true, laidLooks := .later }
def ValidMadeUptoCardSaid : Prop := Claim7.holds Tryz.pinned (.plain (OpenSpec.upto validMadeSpec)) validMadeUptoCard

/-- THE SECOND FORM's CARD OF 'namedesklaw17.ValidErrors'. -/
def validErrorsUptoCard : Claim7 := { stood := { row := validErrorsUptoRow, standIns := [], harness := (true, "d7f9209fcc1d29bb22a26f690f1de61664a12b0a03870c55f953904171ed41fc"), looks := false }, kinds := [], alts := [], laidByText := true, laidKinds := [.data], laidTests := true, laidLooks := .later }
def ValidErrorsUptoCardSaid : Prop := Claim7.holds Tryz.pinned (.plain (OpenSpec.upto validErrorsSpec)) validErrorsUptoCard

/-- THE SECOND FORM's CARD OF 'namedesklaw17.ValidHyphens'. -/
def validHyphensUptoCard : Claim7 := { stood := { row := validHyphensUptoRow, standIns := [], harness := (true, "d7f9209fcc1d29bb22a26f690f1de61664a12b0a03870c55f953904171ed41fc"), looks := false }, kinds := [], alts := [], laidByText := true, laidKinds := [.data], laidTests := true, laidLooks := .later }
def ValidHyphensUptoCardSaid : Prop := Claim7.holds Tryz.pinned (.plain (OpenSpec.upto validHyphensSpec)) validHyphensUptoCard

/-- THE SECOND FORM's CARD OF 'namedesklaw17.ValidNormal'. -/
def validNormalUptoCard : Claim7 := { stood := { row := validNormalUptoRow, standIns := [], harness := (true, "d7f9209fcc1d29bb22a26f690f1de61664a12b0a03870c55f953904171ed41fc"), looks := false }, kinds := [], alts := [], laidByText := true, laidKinds := [.data], laidTests := true, laidLooks := .later }
def ValidNormalUptoCardSaid : Prop := Claim7.holds Tryz.pinned (.plain (OpenSpec.upto validNormalSpec)) validNormalUptoCard

/-- THE SECOND FORM's CARD OF 'namedesklaw17.ValidLetters'. -/
def validLettersUptoCard : Claim7 := { stood := { row := validLettersUptoRow, standIns := [], harness := (true, "d7f9209fcc1d29bb22a26f690f1de61664a12b0a03870c55f953904171ed41fc"), looks := false }, kinds := [], alts := [], laidByText := true, laidKinds := [.data], laidTests := true, laidLooks := .later }
def ValidLettersUptoCardSaid : Prop := Claim7.holds Tryz.pinned (.plain (OpenSpec.upto validLettersSpec)) validLettersUptoCard

/-- THE SECOND FORM's CARD OF 'namedesklaw17.ValidOrder'. -/
def validOrderUptoCard : Claim7 := { stood := { row := validOrderUptoRow, standIns := [], harness := (true, "d7f9209fcc1d29bb22a26f690f1de61664a12b0a03870c55f953904171ed41fc"), looks := false }, kinds := [], alts := [], laidByText := true, laidKinds := [.data], laidTests := true, laidLooks := .later }
def ValidOrderUptoCardSaid : Prop := Claim7.holds Tryz.pinned (.plain (OpenSpec.upto validOrderSpec)) validOrderUptoCard
end Rows
end Go.Proofs.YtopaojjodkoidaaGreatDoor
