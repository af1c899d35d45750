/-
  DERIVED. GIVEN WITH THE SEED: THE CARDS: each row of YtmkaclfjekjabaaDoorRows.lean that lists a variable, with what it lists TIED to the program's text (the seventh form; the later family's looks); each row that meets fmt, with fmt's text TOLD by the authors' own Lean function (tested against real Go, not proved from fmt's source: count such statements apart). THE CARD IS WHAT COUNTS. Prove the row's statement (the work); the ties are given (YtmkaclfjekjabaaDoorTie.lean); close each card by the builder's one call (the guide's Derived/Test/ToyasCard.lean, 'card_holds'). Laid BY PROGRAM, IN A SANDBOX (cutbox-door.mjs). By AI agents, Wed Nov 11 2026. No macro, syntax, notation, axiom, sorry.
-/
import Derived.Test.YtmkaclfjekjabaaDoorRows
import GoSem.ClaimSeven
namespace Go.Proofs.YtmkaclfjekjabaaDoor
namespace Rows

/-- THE TIED CARD OF 'namedesklaw4.TableCheck'. -/
def tableCheckCard : Claim7 := { stood := { row := tableCheckRow, standIns := [], harness := (true, "9bfb5265ad278fb3f431488726b30338a95041fcdf2bb8edeedc96842d16ff71"), looks := false }, kinds := [], alts := [], laidByText := true, laidKinds := [.data], laidTests := true, laidLooks := .later }
def TableCheckCardSaid : Prop := Claim7.holds Tryd.pinned (.plain (OpenSpec.ofChange tableCheckSpec)) tableCheckCard

/-- THE TIED CARD OF 'namedesklaw4.TableMapped'. -/
def tableMappedCard : Claim7 := { stood := { row := tableMappedRow, standIns := [], harness := (true, "9bfb5265ad278fb3f431488726b30338a95041fcdf2bb8edeedc96842d16ff71"), looks := false }, kinds := [], alts := [], laidByText := true, laidKinds := [.data], laidTests := true, laidLooks := .later }
def TableMappedCardSaid : Prop := Claim7.holds Tryd.pinned (.plain (OpenSpec.ofChange tableMappedSpec)) tableMappedCard

/-- THE SECOND FORM's CARD OF 'namedesklaw4.TableCheck'. -/
def tableCheckUptoCard : Claim7 := { stood := { row := tableCheckUptoRow, standIns := [], harness := (true, "9bfb5265ad278fb3f431488726b30338a95041fcdf2bb8edeedc96842d16ff71"), looks := false }, kinds := [], alts := [], laidByText := true, laidKinds := [.data], laidTests := true, laidLooks := .later }
def TableCheckUptoCardSaid : Prop := Claim7.holds Tryd.pinned (.plain (OpenSpec.upto tableCheckSpec)) tableCheckUptoCard

/-- THE SECOND FORM's CARD OF 'namedesklaw4.TableMapped'. -/
def tableMappedUptoCard : Claim7 := { stood := { row := tableMappedUptoRow, standIns := [], harness := (true, "9bfb5265ad278fb3f431488726b30338a95041fcdf2bb8edeedc96842d16ff71"), looks := false }, kinds := [], alts := [], laidByText := true, laidKinds := [.data], laidTests := true, laidLooks := .later }
def TableMappedUptoCardSaid : Prop := Claim7.holds Tryd.pinned (.plain (OpenSpec.upto tableMappedSpec)) tableMappedUptoCard
end Rows
end Go.Proofs.YtmkaclfjekjabaaDoor
