/-
  DERIVED. GIVEN WITH THE SEED: THE CARDS: each row of YtnnhcgflmhjakaaGreatDoorRows.lean that lists a variable, with what it lists TIED to the program's text (the seventh form; the later family's looks); each row that meets fmt, with fmt's text TOLD by the authors' own Lean function (tested against real Go, not proved from fmt's source: count such statements apart). THE CARD IS WHAT COUNTS. Prove the row's statement (the work); the ties are given (YtnnhcgflmhjakaaGreatDoorTie.lean); close each card by the builder's one call (the guide's Derived/Test/ToyasCard.lean, 'card_holds'). Laid BY PROGRAM, IN A SANDBOX (cutbox-door.mjs). By AI agents, Wed Nov 11 2026. No macro, syntax, notation, axiom, sorry.
-/
import Derived.Test.YtnnhcgflmhjakaaGreatDoorRows
import GoSem.ClaimSeven
namespace Go.Proofs.YtnnhcgflmhjakaaGreatDoor
namespace Rows

/-- THE TIED CARD OF 'namedesklaw4.TableDecode'. -/
def tableDecodeCard : Claim7 := { stood := { row := tableDecodeRow, standIns := [], harness := (true, "74e2d27c7c49a7e9f28bd5974a836e60fd4397bf0d6658f795d6f7f900ec2522"), looks := false }, kinds := [], alts := [], laidByText := true, laidKinds := [.data], laidTests := true, laidLooks := .later }
def TableDecodeCardSaid : Prop := Claim7.holds Tryz.pinned (.plain (OpenSpec.ofChange tableDecodeSpec)) tableDecodeCard

/-- THE TIED CARD OF 'namedesklaw4.TableDamaged'. -/
def tableDamagedCard : Claim7 := { stood := { row := tableDamagedRow, standIns := [], harness := (true, "74e2d27c7c49a7e9f28bd5974a836e60fd4397bf0d6658f795d6f7f900ec2522"), looks := false }, kinds := [], alts := [], laidByText := true, laidKinds := [.data], laidTests := true, laidLooks := .later }
def TableDamagedCardSaid : Prop := Claim7.holds Tryz.pinned (.plain (OpenSpec.ofChange tableDamagedSpec)) tableDamagedCard

/-- THE TIED CARD OF 'namedesklaw6.OrderMade'. -/
def orderMadeCard : Claim7 := { stood := { row := orderMadeRow, standIns := [], harness := (true, "74e2d27c7c49a7e9f28bd5974a836e60fd4397bf0d6658f795d6f7f900ec2522"), looks := false }, kinds := [], alts := [], laidByText := true, laidKinds := [.data], laidTests := true, laidLooks := .later }
def OrderMadeCardSaid : Prop := Claim7.holds Tryz.pinned (.plain (OpenSpec.ofChange orderMadeSpec)) orderMadeCard

/-- THE TIED CARD OF 'namedesklaw6.OrderErrors'. -/
def orderErrorsCard : Claim7 := { stood := { row := orderErrorsRow, standIns := [], harness := (true, "74e2d27c7c49a7e9f28bd5974a836e60fd4397bf0d6658f795d6f7f900ec2522"), looks := false }, kinds := [], alts := [], laidByText := true, laidKinds := [.data], laidTests := true, laidLooks := .later }
def OrderErrorsCardSaid : Prop := Claim7.holds Tryz.pinned (.plain (OpenSpec.ofChange orderErrorsSpec)) orderErrorsCard

/-- THE SECOND FORM's CARD OF 'namedesklaw4.TableDecode'. -/
def tableDecodeUptoCard : Claim7 := { stood := { row := tableDecodeUptoRow, standIns := [], harness := (true, "74e2d27c7c49a7e9f28bd5974a836e60fd4397bf0d6658f795d6f7f900ec2522"), looks := false }, kinds := [], alts := [], laidByText := true, laidKinds := [.data], laidTests := true, laidLooks := .later }
def TableDecodeUptoCardSaid : Prop := Claim7.holds Tryz.pinned (.plain (OpenSpec.upto tableDecodeSpec)) tableDecodeUptoCard

/-- THE SECOND FORM's CARD OF 'namedesklaw4.TableDamaged'. -/
def tableDamagedUptoCard : Claim7 := { stood := { row := tableDamagedUptoRow, standIns := [], harness := (true, "74e2d27c7c49a7e9f28bd5974a836e60fd4397bf0d6658f795d6f7f900ec2522"), looks := false }, kinds := [], alts := [], laidByText := true, laidKinds := [.data], laidTests := true, laidLooks := .later }
def TableDamagedUptoCardSaid : Prop := Claim7.holds Tryz.pinned (.plain (OpenSpec.upto tableDamagedSpec)) tableDamagedUptoCard

/-- THE SECOND FORM's CARD OF 'namedesklaw6.OrderMade'. -/
def orderMadeUptoCard : Claim7 := { stood := { row := orderMadeUptoRow, standIns := [], harness := (true, "74e2d27c7c49a7e9f28bd5974a836e60fd4397bf0d6658f795d6f7f900ec2522"), looks := false }, kinds := [], alts := [], laidByText := true, laidKinds := [.data], laidTests := true, laidLooks := .later }
def OrderMadeUptoCardSaid : Prop := Claim7.holds Tryz.pinned (.plain (OpenSpec.upto orderMadeSpec)) orderMadeUptoCard

/-- THE SECOND FORM's CARD OF 'namedesklaw6.OrderErrors'. -/
def orderErrorsUptoCard : Claim7 := { stood := { row := orderErrorsUptoRow, standIns := [], harness := (true, "74e2d27c7c49a7e9f28bd5974a836e60fd4397bf0d6658f795d6f7f900ec2522"), looks := false }, kinds := [], alts := [], laidByText := true, laidKinds := [.data], laidTests := true, laidLooks := .later }
def OrderErrorsUptoCardSaid : Prop := Claim7.holds Tryz.pinned (.plain (OpenSpec.upto orderErrorsSpec)) orderErrorsUptoCard
end Rows
end Go.Proofs.YtnnhcgflmhjakaaGreatDoor
