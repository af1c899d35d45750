/-
  DERIVED. GIVEN WITH THE SEED: THE CARDS: each row of YtcamkjafpnojkaaDoorRows.lean that lists a variable, with what it lists TIED to the program's text (the seventh form; the later family's looks); each row that meets fmt, with fmt's text TOLD by the authors' own Lean function (tested against real Go, not proved from fmt's source: count such statements apart). THE CARD IS WHAT COUNTS. Prove the row's statement (the work); the ties are given (YtcamkjafpnojkaaDoorTie.lean); close each card by the builder's one call (the guide's Derived/Test/ToyasCard.lean, 'card_holds'). Laid BY PROGRAM, IN A SANDBOX (cutbox-door.mjs). By AI agents, Wed Nov 11 2026. No macro, syntax, notation, axiom, sorry.
-/
import Derived.Test.YtcamkjafpnojkaaDoorRows
import GoSem.ClaimSeven
namespace Go.Proofs.YtcamkjafpnojkaaDoor
namespace Rows

/-- THE TIED CARD OF 'namedesklaw8.ComposeExample'. -/
def composeExampleCard : Claim7 := { stood := { row := composeExampleRow, standIns := [], harness := (true, "908f632d7c2142589d100a08bec9e40d0afde903dc1c63f3e032f531aef0ebd7"), looks := false }, kinds := [], alts := [], laidByText := true, laidKinds := [.data], laidTests := true, laidLooks := .later }
def ComposeExampleCardSaid : Prop := Claim7.holds Tryd.pinned (.plain (OpenSpec.ofChange composeExampleSpec)) composeExampleCard

/-- THE SECOND FORM's CARD OF 'namedesklaw8.ComposeExample'. -/
def composeExampleUptoCard : Claim7 := { stood := { row := composeExampleUptoRow, standIns := [], harness := (true, "908f632d7c2142589d100a08bec9e40d0afde903dc1c63f3e032f531aef0ebd7"), looks := false }, kinds := [], alts := [], laidByText := true, laidKinds := [.data], laidTests := true, laidLooks := .later }
def ComposeExampleUptoCardSaid : Prop := Claim7.holds Tryd.pinned (.plain (OpenSpec.upto composeExampleSpec)) composeExampleUptoCard
end Rows
end Go.Proofs.YtcamkjafpnojkaaDoor
