/-
  DERIVED. GIVEN WITH THE SEED: THE CARDS: each row of YtghmddfenmgncaaDoorRows.lean that lists a variable, with what it lists TIED to the program's text (the seventh form; the later family's looks); each row that meets fmt, with fmt's text TOLD by the authors' own Lean function (tested against real Go, not proved from fmt's source: count such statements apart). THE CARD IS WHAT COUNTS. Prove the row's statement (the work); the ties are given (YtghmddfenmgncaaDoorTie.lean); close each card by the builder's one call (the guide's Derived/Test/ToyasCard.lean, 'card_holds'). Laid BY PROGRAM, IN A SANDBOX (cutbox-door.mjs). By AI agents, Wed Nov 11 2026. No macro, syntax, notation, axiom, sorry.
-/
import Derived.Test.YtghmddfenmgncaaDoorRows
import GoSem.ClaimSeven
namespace Go.Proofs.YtghmddfenmgncaaDoor
namespace Rows

/-- THE TIED CARD OF 'namedesklaw14.JoinerVirama'. -/
def joinerViramaCard : Claim7 := { stood := { row := joinerViramaRow, standIns := [], harness := (true, "d3d0e982f078582cae589384323f08c6a4c9150ca27a57b2303b761d871a096a"), looks := false }, kinds := [], alts := [], laidByText := true, laidKinds := [.data], laidTests := true, laidLooks := .later }
def JoinerViramaCardSaid : Prop := Claim7.holds Tryd.pinned (.plain (OpenSpec.ofChange joinerViramaSpec)) joinerViramaCard

/-- THE TIED CARD OF 'namedesklaw14.JoinerAutomaton'. -/
def joinerAutomatonCard : Claim7 := { stood := { row := joinerAutomatonRow, standIns := [], harness := (true, "d3d0e982f078582cae589384323f08c6a4c9150ca27a57b2303b761d871a096a"), looks := false }, kinds := [], alts := [], laidByText := true, laidKinds := [.data], laidTests := true, laidLooks := .later }
def JoinerAutomatonCardSaid : Prop := Claim7.holds Tryd.pinned (.plain (OpenSpec.ofChange joinerAutomatonSpec)) joinerAutomatonCard

/-- THE TIED CARD OF 'namedesklaw14.JoinerNone'. -/
def joinerNoneCard : Claim7 := { stood := { row := joinerNoneRow, standIns := [], harness := (true, "d3d0e982f078582cae589384323f08c6a4c9150ca27a57b2303b761d871a096a"), looks := false }, kinds := [], alts := [], laidByText := true, laidKinds := [.data], laidTests := true, laidLooks := .later }
def JoinerNoneCardSaid : Prop := Claim7.holds Tryd.pinned (.plain (OpenSpec.ofChange joinerNoneSpec)) joinerNoneCard

/-- THE TIED CARD OF 'namedesklaw14.JoinerMirror'. -/
def joinerMirrorCard : Claim7 := { stood := { row := joinerMirrorRow, standIns := [], harness := (true, "d3d0e982f078582cae589384323f08c6a4c9150ca27a57b2303b761d871a096a"), looks := false }, kinds := [], alts := [], laidByText := true, laidKinds := [.data], laidTests := true, laidLooks := .later }
def JoinerMirrorCardSaid : Prop := Claim7.holds Tryd.pinned (.plain (OpenSpec.ofChange joinerMirrorSpec)) joinerMirrorCard

/-- THE SECOND FORM's CARD OF 'namedesklaw14.JoinerVirama'. -/
def joinerViramaUptoCard : Claim7 := { stood := { row := joinerViramaUptoRow, standIns := [], harness := (true, "d3d0e982f078582cae589384323f08c6a4c9150ca27a57b2303b761d871a096a"), looks := false }, kinds := [], alts := [], laidByText := true, laidKinds := [.data], laidTests := true, laidLooks := .later }
def JoinerViramaUptoCardSaid : Prop := Claim7.holds Tryd.pinned (.plain (OpenSpec.upto joinerViramaSpec)) joinerViramaUptoCard

/-- THE SECOND FORM's CARD OF 'namedesklaw14.JoinerAutomaton'. -/
def joinerAutomatonUptoCard : Claim7 := { stood := { row := joinerAutomatonUptoRow, standIns := [], harness := (true, "d3d0e982f078582cae589384323f08c6a4c9150ca27a57b2303b761d871a096a"), looks := false }, kinds := [], alts := [], laidByText := true, laidKinds := [.data], laidTests := true, laidLooks := .later }
def JoinerAutomatonUptoCardSaid : Prop := Claim7.holds Tryd.pinned (.plain (OpenSpec.upto joinerAutomatonSpec)) joinerAutomatonUptoCard

/-- THE SECOND FORM's CARD OF 'namedesklaw14.JoinerNone'. -/
def joinerNoneUptoCard : Claim7 := { stood := { row := joinerNoneUptoRow, standIns := [], harness := (true, "d3d0e982f078582cae589384323f08c6a4c9150ca27a57b2303b761d871a096a"), looks := false }, kinds := [], alts := [], laidByText := true, laidKinds := [.data], laidTests := true, laidLooks := .later }
def JoinerNoneUptoCardSaid : Prop := Claim7.holds Tryd.pinned (.plain (OpenSpec.upto joinerNoneSpec)) joinerNoneUptoCard

/-- THE SECOND FORM's CARD OF 'namedesklaw14.JoinerMirror'. -/
def joinerMirrorUptoCard : Claim7 := { stood := { row := joinerMirrorUptoRow, standIns := [], harness := (true, "d3d0e982f078582cae589384323f08c6a4c9150ca27a57b2303b761d871a096a"), looks := false }, kinds := [], alts := [], laidByText := true, laidKinds := [.data], laidTests := true, laidLooks := .later }
def JoinerMirrorUptoCardSaid : Prop := Claim7.holds Tryd.pinned (.plain (OpenSpec.upto joinerMirrorSpec)) joinerMirrorUptoCard
end Rows
end Go.Proofs.YtghmddfenmgncaaDoor
