/-
  DERIVED. GIVEN WITH THE SEED: THE CARDS: each row of YtnnhcgflmhjakaaDoorRows.lean that lists a variable, with what it lists TIED to the program's text (the seventh form; the later family's looks); each row that meets fmt, with fmt's text TOLD by the authors' own Lean function (tested against real Go, not proved from fmt's source: count such statements apart). THE CARD IS WHAT COUNTS. Prove the row's statement (the work); the ties are given (YtnnhcgflmhjakaaDoorTie.lean); close each card by the builder's one call (the guide's Derived/Test/ToyasCard.lean, 'card_holds'). Laid BY PROGRAM, IN A SANDBOX (cutbox-door.mjs). By AI agents, Wed Nov 11 2026. No macro, syntax, notation, axiom, sorry.
-/
import Derived.Test.YtnnhcgflmhjakaaDoorRows
import GoSem.ClaimSeven
namespace Go.Proofs.YtnnhcgflmhjakaaDoor
namespace Rows

/-- THE TIED CARD OF 'namedesklaw6.OrderStable'. -/
def orderStableCard : Claim7 := { stood := { row := orderStableRow, standIns := [], harness := (true, "4bb9d7ff41ba345a4a62fd59cea282501b22703be77023b29fa8a0f5a67b1aa7"), looks := false }, kinds := [], alts := [], laidByText := true, laidKinds := [.data], laidTests := true, laidLooks := .later }
def OrderStableCardSaid : Prop := Claim7.holds Tryd.pinned (.plain (OpenSpec.ofChange orderStableSpec)) orderStableCard

/-- THE TIED CARD OF 'namedesklaw6.OrderNeighbours'. -/
def orderNeighboursCard : Claim7 := { stood := { row := orderNeighboursRow, standIns := [], harness := (true, "4bb9d7ff41ba345a4a62fd59cea282501b22703be77023b29fa8a0f5a67b1aa7"), looks := false }, kinds := [], alts := [], laidByText := true, laidKinds := [.data], laidTests := true, laidLooks := .later }
def OrderNeighboursCardSaid : Prop := Claim7.holds Tryd.pinned (.plain (OpenSpec.ofChange orderNeighboursSpec)) orderNeighboursCard

/-- THE TIED CARD OF 'namedesklaw6.OrderConcatenation'. -/
def orderConcatenationCard : Claim7 := { stood := { row := orderConcatenationRow, standIns := [], harness := (true, "4bb9d7ff41ba345a4a62fd59cea282501b22703be77023b29fa8a0f5a67b1aa7"), looks := false }, kinds := [], alts := [], laidByText := true, laidKinds := [.data], laidTests := true, laidLooks := .later }
def OrderConcatenationCardSaid : Prop := Claim7.holds Tryd.pinned (.plain (OpenSpec.ofChange orderConcatenationSpec)) orderConcatenationCard

/-- THE TIED CARD OF 'namedesklaw6.OrderRuns'. -/
def orderRunsCard : Claim7 := { stood := { row := orderRunsRow, standIns := [], harness := (true, "4bb9d7ff41ba345a4a62fd59cea282501b22703be77023b29fa8a0f5a67b1aa7"), looks := false }, kinds := [], alts := [], laidByText := true, laidKinds := [.data], laidTests := true, laidLooks := .later }
def OrderRunsCardSaid : Prop := Claim7.holds Tryd.pinned (.plain (OpenSpec.ofChange orderRunsSpec)) orderRunsCard

/-- THE SECOND FORM's CARD OF 'namedesklaw6.OrderStable'. -/
def orderStableUptoCard : Claim7 := { stood := { row := orderStableUptoRow, standIns := [], harness := (true, "4bb9d7ff41ba345a4a62fd59cea282501b22703be77023b29fa8a0f5a67b1aa7"), looks := false }, kinds := [], alts := [], laidByText := true, laidKinds := [.data], laidTests := true, laidLooks := .later }
def OrderStableUptoCardSaid : Prop := Claim7.holds Tryd.pinned (.plain (OpenSpec.upto orderStableSpec)) orderStableUptoCard

/-- THE SECOND FORM's CARD OF 'namedesklaw6.OrderNeighbours'. -/
def orderNeighboursUptoCard : Claim7 := { stood := { row := orderNeighboursUptoRow, standIns := [], harness := (true, "4bb9d7ff41ba345a4a62fd59cea282501b22703be77023b29fa8a0f5a67b1aa7"), looks := false }, kinds := [], alts := [], laidByText := true, laidKinds := [.data], laidTests := true, laidLooks := .later }
def OrderNeighboursUptoCardSaid : Prop := Claim7.holds Tryd.pinned (.plain (OpenSpec.upto orderNeighboursSpec)) orderNeighboursUptoCard

/-- THE SECOND FORM's CARD OF 'namedesklaw6.OrderConcatenation'. -/
def orderConcatenationUptoCard : Claim7 := { stood := { row := orderConcatenationUptoRow, standIns := [], harness := (true, "4bb9d7ff41ba345a4a62fd59cea282501b22703be77023b29fa8a0f5a67b1aa7"), looks := false }, kinds := [], alts := [], laidByText := true, laidKinds := [.data], laidTests := true, laidLooks := .later }
def OrderConcatenationUptoCardSaid : Prop := Claim7.holds Tryd.pinned (.plain (OpenSpec.upto orderConcatenationSpec)) orderConcatenationUptoCard

/-- THE SECOND FORM's CARD OF 'namedesklaw6.OrderRuns'. -/
def orderRunsUptoCard : Claim7 := { stood := { row := orderRunsUptoRow, standIns := [], harness := (true, "4bb9d7ff41ba345a4a62fd59cea282501b22703be77023b29fa8a0f5a67b1aa7"), looks := false }, kinds := [], alts := [], laidByText := true, laidKinds := [.data], laidTests := true, laidLooks := .later }
def OrderRunsUptoCardSaid : Prop := Claim7.holds Tryd.pinned (.plain (OpenSpec.upto orderRunsSpec)) orderRunsUptoCard
end Rows
end Go.Proofs.YtnnhcgflmhjakaaDoor
