/-
  DERIVED. GIVEN WITH THE SEED: THE CARDS: each row of YtgekoeobllhnnaaDoorRows.lean that lists a variable, with what it lists TIED to the program's text (the seventh form; the later family's looks); each row that meets fmt, with fmt's text TOLD by the authors' own Lean function (tested against real Go, not proved from fmt's source: count such statements apart). THE CARD IS WHAT COUNTS. Prove the row's statement (the work); the ties are given (YtgekoeobllhnnaaDoorTie.lean); close each card by the builder's one call (the guide's Derived/Test/ToyasCard.lean, 'card_holds'). Laid BY PROGRAM, IN A SANDBOX (cutbox-door.mjs). By AI agents, Wed Nov 11 2026. No macro, syntax, notation, axiom, sorry.
-/
import Derived.Test.YtgekoeobllhnnaaDoorRows
import GoSem.ClaimSeven
namespace Go.Proofs.YtgekoeobllhnnaaDoor
namespace Rows

/-- THE TIED CARD OF 'namedesklaw7.DecomposeExpanded'. -/
def decomposeExpandedCard : Claim7 := { stood := { row := decomposeExpandedRow, standIns := [], harness := (true, "cf75f9e88d85346141c3cb7d8ac56de03fec5aad277c4d6479cd672d10a4202e"), looks := false }, kinds := [], alts := [], laidByText := true, laidKinds := [.data], laidTests := true, laidLooks := .later }
def DecomposeExpandedCardSaid : Prop := Claim7.holds Tryd.pinned (.plain (OpenSpec.ofChange decomposeExpandedSpec)) decomposeExpandedCard

/-- THE TIED CARD OF 'namedesklaw7.DecomposeEquivalent'. -/
def decomposeEquivalentCard : Claim7 := { stood := { row := decomposeEquivalentRow, standIns := [], harness := (true, "cf75f9e88d85346141c3cb7d8ac56de03fec5aad277c4d6479cd672d10a4202e"), looks := false }, kinds := [], alts := [], laidByText := true, laidKinds := [.data], laidTests := true, laidLooks := .later }
def DecomposeEquivalentCardSaid : Prop := Claim7.holds Tryd.pinned (.plain (OpenSpec.ofChange decomposeEquivalentSpec)) decomposeEquivalentCard

/-- THE SECOND FORM's CARD OF 'namedesklaw7.DecomposeExpanded'. -/
def decomposeExpandedUptoCard : Claim7 := { stood := { row := decomposeExpandedUptoRow, standIns := [], harness := (true, "cf75f9e88d85346141c3cb7d8ac56de03fec5aad277c4d6479cd672d10a4202e"), looks := false }, kinds := [], alts := [], laidByText := true, laidKinds := [.data], laidTests := true, laidLooks := .later }
def DecomposeExpandedUptoCardSaid : Prop := Claim7.holds Tryd.pinned (.plain (OpenSpec.upto decomposeExpandedSpec)) decomposeExpandedUptoCard

/-- THE SECOND FORM's CARD OF 'namedesklaw7.DecomposeEquivalent'. -/
def decomposeEquivalentUptoCard : Claim7 := { stood := { row := decomposeEquivalentUptoRow, standIns := [], harness := (true, "cf75f9e88d85346141c3cb7d8ac56de03fec5aad277c4d6479cd672d10a4202e"), looks := false }, kinds := [], alts := [], laidByText := true, laidKinds := [.data], laidTests := true, laidLooks := .later }
def DecomposeEquivalentUptoCardSaid : Prop := Claim7.holds Tryd.pinned (.plain (OpenSpec.upto decomposeEquivalentSpec)) decomposeEquivalentUptoCard
end Rows
end Go.Proofs.YtgekoeobllhnnaaDoor
