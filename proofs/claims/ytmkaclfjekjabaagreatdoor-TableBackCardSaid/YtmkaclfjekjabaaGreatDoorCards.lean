/-
  DERIVED. GIVEN WITH THE SEED: THE CARDS: each row of YtmkaclfjekjabaaGreatDoorRows.lean that lists a variable, with what it lists TIED to the program's text (the seventh form; the later family's looks); each row that meets fmt, with fmt's text TOLD by the authors' own Lean function (tested against real Go, not proved from fmt's source: count such statements apart). THE CARD IS WHAT COUNTS. Prove the row's statement (the work); the ties are given (YtmkaclfjekjabaaGreatDoorTie.lean); close each card by the builder's one call (the guide's Derived/Test/ToyasCard.lean, 'card_holds'). Laid BY PROGRAM, IN A SANDBOX (cutbox-door.mjs). By AI agents, Wed Nov 11 2026. No macro, syntax, notation, axiom, sorry.
-/
import Derived.Test.YtmkaclfjekjabaaGreatDoorRows
import GoSem.ClaimSeven
namespace Go.Proofs.YtmkaclfjekjabaaGreatDoor
namespace Rows

/-- THE TIED CARD OF 'namedesklaw4.TableOther'. -/
def tableOtherCard : Claim7 := { stood := { row := tableOtherRow, standIns := [], harness := (true, "69cb3204e25c9429648910d713564dcc7fab1fa7816b13e623c6d11316bfbe28"), looks := false }, kinds := [], alts := [], laidByText := true, laidKinds := [.data], laidTests := true, laidLooks := .later }
def TableOtherCardSaid : Prop := Claim7.holds Tryz.pinned (.plain (OpenSpec.ofChange tableOtherSpec)) tableOtherCard

/-- THE TIED CARD OF 'namedesklaw4.TableProperties'. -/
def tablePropertiesCard : Claim7 := { stood := { row := tablePropertiesRow, standIns := [], harness := (true, "69cb3204e25c9429648910d713564dcc7fab1fa7816b13e623c6d11316bfbe28"), looks := false }, kinds := [], alts := [], laidByText := true, laidKinds := [.data], laidTests := true, laidLooks := .later }
def TablePropertiesCardSaid : Prop := Claim7.holds Tryz.pinned (.plain (OpenSpec.ofChange tablePropertiesSpec)) tablePropertiesCard

/-- THE TIED CARD OF 'namedesklaw4.TableFixed'. -/
def tableFixedCard : Claim7 := { stood := { row := tableFixedRow, standIns := [], harness := (true, "69cb3204e25c9429648910d713564dcc7fab1fa7816b13e623c6d11316bfbe28"), looks := false }, kinds := [], alts := [], laidByText := true, laidKinds := [.data], laidTests := true, laidLooks := .later }
def TableFixedCardSaid : Prop := Claim7.holds Tryz.pinned (.plain (OpenSpec.ofChange tableFixedSpec)) tableFixedCard

/-- THE TIED CARD OF 'namedesklaw4.TableEncode'. -/
def tableEncodeCard : Claim7 := { stood := { row := tableEncodeRow, standIns := [], harness := (true, "69cb3204e25c9429648910d713564dcc7fab1fa7816b13e623c6d11316bfbe28"), looks := false }, kinds := [], alts := [], laidByText := true, laidKinds := [.data], laidTests := true, laidLooks := .later }
def TableEncodeCardSaid : Prop := Claim7.holds Tryz.pinned (.plain (OpenSpec.ofChange tableEncodeSpec)) tableEncodeCard

/-- THE TIED CARD OF 'namedesklaw4.TableBack'. -/
def tableBackCard : Claim7 := { stood := { row := tableBackRow, standIns := [], harness := (true, "69cb3204e25c9429648910d713564dcc7fab1fa7816b13e623c6d11316bfbe28"), looks := false }, kinds := [], alts := [], laidByText := true, laidKinds := [.data], laidTests := true, laidLooks := .later }
def TableBackCardSaid : Prop := Claim7.holds Tryz.pinned (.plain (OpenSpec.ofChange tableBackSpec)) tableBackCard

/-- THE TIED CARD OF 'namedesklaw4.TableDecode'. -/
def tableDecodeCard : Claim7 := { stood := { row := tableDecodeRow, standIns := [], harness := (true, "69cb3204e25c9429648910d713564dcc7fab1fa7816b13e623c6d11316bfbe28"), looks := false }, kinds := [], alts := [], laidByText := true, laidKinds := [.data], laidTests := true, laidLooks := .later }
def TableDecodeCardSaid : Prop := Claim7.holds Tryz.pinned (.plain (OpenSpec.ofChange tableDecodeSpec)) tableDecodeCard

/-- THE TIED CARD OF 'namedesklaw4.TableDamaged'. -/
def tableDamagedCard : Claim7 := { stood := { row := tableDamagedRow, standIns := [], harness := (true, "69cb3204e25c9429648910d713564dcc7fab1fa7816b13e623c6d11316bfbe28"), looks := false }, kinds := [], alts := [], laidByText := true, laidKinds := [.data], laidTests := true, laidLooks := .later }
def TableDamagedCardSaid : Prop := Claim7.holds Tryz.pinned (.plain (OpenSpec.ofChange tableDamagedSpec)) tableDamagedCard

/-- THE SECOND FORM's CARD OF 'namedesklaw4.TableOther'. -/
def tableOtherUptoCard : Claim7 := { stood := { row := tableOtherUptoRow, standIns := [], harness := (true, "69cb3204e25c9429648910d713564dcc7fab1fa7816b13e623c6d11316bfbe28"), looks := false }, kinds := [], alts := [], laidByText := true, laidKinds := [.data], laidTests := true, laidLooks := .later }
def TableOtherUptoCardSaid : Prop := Claim7.holds Tryz.pinned (.plain (OpenSpec.upto tableOtherSpec)) tableOtherUptoCard

/-- THE SECOND FORM's CARD OF 'namedesklaw4.TableProperties'. -/
def tablePropertiesUptoCard : Claim7 := { stood := { row := tablePropertiesUptoRow, standIns := [], harness := (true, "69cb3204e25c9429648910d713564dcc7fab1fa7816b13e623c6d11316bfbe28"), looks := false }, kinds := [], alts := [], laidByText := true, laidKinds := [.data], laidTests := true, laidLooks := .later }
def TablePropertiesUptoCardSaid : Prop := Claim7.holds Tryz.pinned (.plain (OpenSpec.upto tablePropertiesSpec)) tablePropertiesUptoCard

/-- THE SECOND FORM's CARD OF 'namedesklaw4.TableFixed'. -/
def tableFixedUptoCard : Claim7 := { stood := { row := tableFixedUptoRow, standIns := [], harness := (true, "69cb3204e25c9429648910d713564dcc7fab1fa7816b13e623c6d11316bfbe28"), looks := false }, kinds := [], alts := [], laidByText := true, laidKinds := [.data], laidTests := true, laidLooks := .later }
def TableFixedUptoCardSaid : Prop := Claim7.holds Tryz.pinned (.plain (OpenSpec.upto tableFixedSpec)) tableFixedUptoCard

/-- THE SECOND FORM's CARD OF 'namedesklaw4.TableEncode'. -/
def tableEncodeUptoCard : Claim7 := { stood := { row := tableEncodeUptoRow, standIns := [], harness := (true, "69cb3204e25c9429648910d713564dcc7fab1fa7816b13e623c6d11316bfbe28"), looks := false }, kinds := [], alts := [], laidByText := true, laidKinds := [.data], laidTests := true, laidLooks := .later }
def TableEncodeUptoCardSaid : Prop := Claim7.holds Tryz.pinned (.plain (OpenSpec.upto tableEncodeSpec)) tableEncodeUptoCard

/-- THE SECOND FORM's CARD OF 'namedesklaw4.TableBack'. -/
def tableBackUptoCard : Claim7 := { stood := { row := tableBackUptoRow, standIns := [], harness := (true, "69cb3204e25c9429648910d713564dcc7fab1fa7816b13e623c6d11316bfbe28"), looks := false }, kinds := [], alts := [], laidByText := true, laidKinds := [.data], laidTests := true, laidLooks := .later }
def TableBackUptoCardSaid : Prop := Claim7.holds Tryz.pinned (.plain (OpenSpec.upto tableBackSpec)) tableBackUptoCard

/-- THE SECOND FORM's CARD OF 'namedesklaw4.TableDecode'. -/
def tableDecodeUptoCard : Claim7 := { stood := { row := tableDecodeUptoRow, standIns := [], harness := (true, "69cb3204e25c9429648910d713564dcc7fab1fa7816b13e623c6d11316bfbe28"), looks := false }, kinds := [], alts := [], laidByText := true, laidKinds := [.data], laidTests := true, laidLooks := .later }
def TableDecodeUptoCardSaid : Prop := Claim7.holds Tryz.pinned (.plain (OpenSpec.upto tableDecodeSpec)) tableDecodeUptoCard

/-- THE SECOND FORM's CARD OF 'namedesklaw4.TableDamaged'. -/
def tableDamagedUptoCard : Claim7 := { stood := { row := tableDamagedUptoRow, standIns := [], harness := (true, "69cb3204e25c9429648910d713564dcc7fab1fa7816b13e623c6d11316bfbe28"), looks := false }, kinds := [], alts := [], laidByText := true, laidKinds := [.data], laidTests := true, laidLooks := .later }
def TableDamagedUptoCardSaid : Prop := Claim7.holds Tryz.pinned (.plain (OpenSpec.upto tableDamagedSpec)) tableDamagedUptoCard
end Rows
end Go.Proofs.YtmkaclfjekjabaaGreatDoor
