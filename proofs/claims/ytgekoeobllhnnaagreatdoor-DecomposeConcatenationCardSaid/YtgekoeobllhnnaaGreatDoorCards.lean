/-
  DERIVED. GIVEN WITH THE SEED: THE CARDS: each row of YtgekoeobllhnnaaGreatDoorRows.lean that lists a variable, with what it lists TIED to the program's text (the seventh form; the later family's looks); each row that meets fmt, with fmt's text TOLD by the authors' own Lean function (tested against real Go, not proved from fmt's source: count such statements apart). THE CARD IS WHAT COUNTS. Prove the row's statement (the work); the ties are given (YtgekoeobllhnnaaGreatDoorTie.lean); close each card by the builder's one call (the guide's Derived/Test/ToyasCard.lean, 'card_holds'). Laid BY PROGRAM, IN A SANDBOX (cutbox-door.mjs). By AI agents, Wed Nov 11 2026. No macro, syntax, notation, axiom, sorry.
-/
import Derived.Test.YtgekoeobllhnnaaGreatDoorRows
import GoSem.ClaimSeven
namespace Go.Proofs.YtgekoeobllhnnaaGreatDoor
namespace Rows

/-- THE TIED CARD OF 'namedesklaw7.DecomposeMade'. -/
def decomposeMadeCard : Claim7 := { stood := { row := decomposeMadeRow, standIns := [], harness := (true, "464084af17d2e3769b34b8c3c9d76e433c2fa9e895d60f08807d219007d6e6ce"), looks := false }, kinds := [], alts := [], laidByText := true, laidKinds := [.data], laidTests := true, laidLooks := .later }
def DecomposeMadeCardSaid : Prop := Claim7.holds Tryz.pinned (.plain (OpenSpec.ofChange decomposeMadeSpec)) decomposeMadeCard

/-- THE TIED CARD OF 'namedesklaw7.DecomposeErrors'. -/
def decomposeErrorsCard : Claim7 := { stood := { row := decomposeErrorsRow, standIns := [], harness := (true, "464084af17d2e3769b34b8c3c9d76e433c2fa9e895d60f08807d219007d6e6ce"), looks := false }, kinds := [], alts := [], laidByText := true, laidKinds := [.data], laidTests := true, laidLooks := .later }
def DecomposeErrorsCardSaid : Prop := Claim7.holds Tryz.pinned (.plain (OpenSpec.ofChange decomposeErrorsSpec)) decomposeErrorsCard

/-- THE TIED CARD OF 'namedesklaw7.DecomposeTwice'. -/
def decomposeTwiceCard : Claim7 := { stood := { row := decomposeTwiceRow, standIns := [], harness := (true, "464084af17d2e3769b34b8c3c9d76e433c2fa9e895d60f08807d219007d6e6ce"), looks := false }, kinds := [], alts := [], laidByText := true, laidKinds := [.data], laidTests := true, laidLooks := .later }
def DecomposeTwiceCardSaid : Prop := Claim7.holds Tryz.pinned (.plain (OpenSpec.ofChange decomposeTwiceSpec)) decomposeTwiceCard

/-- THE TIED CARD OF 'namedesklaw7.DecomposeConcatenation'. -/
def decomposeConcatenationCard : Claim7 := { stood := { row := decomposeConcatenationRow, standIns := [], harness := (true, "464084af17d2e3769b34b8c3c9d76e433c2fa9e895d60f08807d219007d6e6ce"), looks := false }, kinds := [], alts := [], laidByText := true, laidKinds := [.data], laidTests := true, laidLooks := .later }
def DecomposeConcatenationCardSaid : Prop := Claim7.holds Tryz.pinned (.plain (OpenSpec.ofChange decomposeConcatenationSpec)) decomposeConcatenationCard

/-- THE TIED CARD OF 'namedesklaw7.DecomposeBound'. -/
def decomposeBoundCard : Claim7 := { stood := { row := decomposeBoundRow, standIns := [], harness := (true, "464084af17d2e3769b34b8c3c9d76e433c2fa9e895d60f08807d219007d6e6ce"), looks := false }, kinds := [], alts := [], laidByText := true, laidKinds := [.data], laidTests := true, laidLooks := .later }
def DecomposeBoundCardSaid : Prop := Claim7.holds Tryz.pinned (.plain (OpenSpec.ofChange decomposeBoundSpec)) decomposeBoundCard

/-- THE SECOND FORM's CARD OF 'namedesklaw7.DecomposeMade'. -/
def decomposeMadeUptoCard : Claim7 := { stood := { row := decomposeMadeUptoRow, standIns := [], harness := (true, "464084af17d2e3769b34b8c3c9d76e433c2fa9e895d60f08807d219007d6e6ce"), looks := false }, kinds := [], alts := [], laidByText := true, laidKinds := [.data], laidTests := true, laidLooks := .later }
def DecomposeMadeUptoCardSaid : Prop := Claim7.holds Tryz.pinned (.plain (OpenSpec.upto decomposeMadeSpec)) decomposeMadeUptoCard

/-- THE SECOND FORM's CARD OF 'namedesklaw7.DecomposeErrors'. -/
def decomposeErrorsUptoCard : Claim7 := { stood := { row := decomposeErrorsUptoRow, standIns := [], harness := (true, "464084af17d2e3769b34b8c3c9d76e433c2fa9e895d60f08807d219007d6e6ce"), looks := false }, kinds := [], alts := [], laidByText := true, laidKinds := [.data], laidTests := true, laidLooks := .later }
def DecomposeErrorsUptoCardSaid : Prop := Claim7.holds Tryz.pinned (.plain (OpenSpec.upto decomposeErrorsSpec)) decomposeErrorsUptoCard

/-- THE SECOND FORM's CARD OF 'namedesklaw7.DecomposeTwice'. -/
def decomposeTwiceUptoCard : Claim7 := { stood := { row := decomposeTwiceUptoRow, standIns := [], harness := (true, "464084af17d2e3769b34b8c3c9d76e433c2fa9e895d60f08807d219007d6e6ce"), looks := false }, kinds := [], alts := [], laidByText := true, laidKinds := [.data], laidTests := true, laidLooks := .later }
def DecomposeTwiceUptoCardSaid : Prop := Claim7.holds Tryz.pinned (.plain (OpenSpec.upto decomposeTwiceSpec)) decomposeTwiceUptoCard

/-- THE SECOND FORM's CARD OF 'namedesklaw7.DecomposeConcatenation'. -/
def decomposeConcatenationUptoCard : Claim7 := { stood := { row := decomposeConcatenationUptoRow, standIns := [], harness := (true, "464084af17d2e3769b34b8c3c9d76e433c2fa9e895d60f08807d219007d6e6ce"), looks := false }, kinds := [], alts := [], laidByText := true, laidKinds := [.data], laidTests := true, laidLooks := .later }
def DecomposeConcatenationUptoCardSaid : Prop := Claim7.holds Tryz.pinned (.plain (OpenSpec.upto decomposeConcatenationSpec)) decomposeConcatenationUptoCard

/-- THE SECOND FORM's CARD OF 'namedesklaw7.DecomposeBound'. -/
def decomposeBoundUptoCard : Claim7 := { stood := { row := decomposeBoundUptoRow, standIns := [], harness := (true, "464084af17d2e3769b34b8c3c9d76e433c2fa9e895d60f08807d219007d6e6ce"), looks := false }, kinds := [], alts := [], laidByText := true, laidKinds := [.data], laidTests := true, laidLooks := .later }
def DecomposeBoundUptoCardSaid : Prop := Claim7.holds Tryz.pinned (.plain (OpenSpec.upto decomposeBoundSpec)) decomposeBoundUptoCard
end Rows
end Go.Proofs.YtgekoeobllhnnaaGreatDoor
