/-
  DERIVED. GIVEN WITH THE SEED: THE CARDS: each row of YtddphlindcabpaaGreatDoorRows.lean that lists a variable, with what it lists TIED to the program's text (the seventh form; the later family's looks); each row that meets fmt, with fmt's text TOLD by the authors' own Lean function (tested against real Go, not proved from fmt's source: count such statements apart). THE CARD IS WHAT COUNTS. Prove the row's statement (the work); the ties are given (YtddphlindcabpaaGreatDoorTie.lean); close each card by the builder's one call (the guide's Derived/Test/ToyasCard.lean, 'card_holds'). Laid BY PROGRAM, IN A SANDBOX (cutbox-door.mjs). By AI agents, Wed Nov 11 2026. No macro, syntax, notation, axiom, sorry.
-/
import Derived.Test.YtddphlindcabpaaGreatDoorRows
import GoSem.ClaimSeven
namespace Go.Proofs.YtddphlindcabpaaGreatDoor
namespace Rows

/-- THE TIED CARD OF 'namedesklaw15.ContextMade'. -/
def contextMadeCard : Claim7 := { stood := { row := contextMadeRow, standIns := [], harness := (true, "9a9331399c55a0c1e599185a385271c31ea94397221e1e2254f6fd12569a062e"), looks := false }, kinds := [], alts := [], laidByText := true, laidKinds := [.data], laidTests := true, laidLooks := .later }
def ContextMadeCardSaid : Prop := Claim7.holds Tryz.pinned (.plain (OpenSpec.ofChange contextMadeSpec)) contextMadeCard

/-- THE TIED CARD OF 'namedesklaw15.ContextErrors'. -/
def contextErrorsCard : Claim7 := { stood := { row := contextErrorsRow, standIns := [], harness := (true, "9a9331399c55a0c1e599185a385271c31ea94397221e1e2254f6fd12569a062e"), looks := false }, kinds := [], alts := [], laidByText := true, laidKinds := [.data], laidTests := true, laidLooks := .later }
def ContextErrorsCardSaid : Prop := Claim7.holds Tryz.pinned (.plain (OpenSpec.ofChange contextErrorsSpec)) contextErrorsCard

/-- THE SECOND FORM's CARD OF 'namedesklaw15.ContextMade'. -/
def contextMadeUptoCard : Claim7 := { stood := { row := contextMadeUptoRow, standIns := [], harness := (true, "9a9331399c55a0c1e599185a385271c31ea94397221e1e2254f6fd12569a062e"), looks := false }, kinds := [], alts := [], laidByText := true, laidKinds := [.data], laidTests := true, laidLooks := .later }
def ContextMadeUptoCardSaid : Prop := Claim7.holds Tryz.pinned (.plain (OpenSpec.upto contextMadeSpec)) contextMadeUptoCard

/-- THE SECOND FORM's CARD OF 'namedesklaw15.ContextErrors'. -/
def contextErrorsUptoCard : Claim7 := { stood := { row := contextErrorsUptoRow, standIns := [], harness := (true, "9a9331399c55a0c1e599185a385271c31ea94397221e1e2254f6fd12569a062e"), looks := false }, kinds := [], alts := [], laidByText := true, laidKinds := [.data], laidTests := true, laidLooks := .later }
def ContextErrorsUptoCardSaid : Prop := Claim7.holds Tryz.pinned (.plain (OpenSpec.upto contextErrorsSpec)) contextErrorsUptoCard
end Rows
end Go.Proofs.YtddphlindcabpaaGreatDoor
