/-
  DERIVED. GIVEN WITH THE SEED: THE CARDS: each row of YtfmfifmmaihodaaGreatDoorRows.lean that lists a variable, with what it lists TIED to the program's text (the seventh form; the later family's looks); each row that meets fmt, with fmt's text TOLD by the authors' own Lean function (tested against real Go, not proved from fmt's source: count such statements apart). THE CARD IS WHAT COUNTS. Prove the row's statement (the work); the ties are given (YtfmfifmmaihodaaGreatDoorTie.lean); close each card by the builder's one call (the guide's Derived/Test/ToyasCard.lean, 'card_holds'). Laid BY PROGRAM, IN A SANDBOX (cutbox-door.mjs). By AI agents, Wed Nov 11 2026. No macro, syntax, notation, axiom, sorry.
-/
import Derived.Test.YtfmfifmmaihodaaGreatDoorRows
import GoSem.ClaimSeven
namespace Go.Proofs.YtfmfifmmaihodaaGreatDoor
namespace Rows

/-- THE TIED CARD OF 'namedesklaw9.StreamNew'. -/
def streamNewCard : Claim7 := { stood := { row := streamNewRow, standIns := [], harness := (true, "0255e733a5a271a0e2accb791b78857f81056a3c5d42263be64dd3125c1f5419"), looks := false }, kinds := [], alts := [], laidByText := true, laidKinds := [.data], laidTests := true, laidLooks := .later }
def StreamNewCardSaid : Prop := Claim7.holds Tryz.pinned (.plain (OpenSpec.ofChange streamNewSpec)) streamNewCard

/-- THE TIED CARD OF 'namedesklaw9.StreamPush'. -/
def streamPushCard : Claim7 := { stood := { row := streamPushRow, standIns := [], harness := (true, "0255e733a5a271a0e2accb791b78857f81056a3c5d42263be64dd3125c1f5419"), looks := false }, kinds := [], alts := [], laidByText := true, laidKinds := [.data], laidTests := true, laidLooks := .later }
def StreamPushCardSaid : Prop := Claim7.holds Tryz.pinned (.plain (OpenSpec.ofChange streamPushSpec)) streamPushCard

/-- THE TIED CARD OF 'namedesklaw9.StreamWhole'. -/
def streamWholeCard : Claim7 := { stood := { row := streamWholeRow, standIns := [], harness := (true, "0255e733a5a271a0e2accb791b78857f81056a3c5d42263be64dd3125c1f5419"), looks := false }, kinds := [], alts := [], laidByText := true, laidKinds := [.data], laidTests := true, laidLooks := .later }
def StreamWholeCardSaid : Prop := Claim7.holds Tryz.pinned (.plain (OpenSpec.ofChange streamWholeSpec)) streamWholeCard

/-- THE TIED CARD OF 'namedesklaw9.StreamRefused'. -/
def streamRefusedCard : Claim7 := { stood := { row := streamRefusedRow, standIns := [], harness := (true, "0255e733a5a271a0e2accb791b78857f81056a3c5d42263be64dd3125c1f5419"), looks := false }, kinds := [], alts := [], laidByText := true, laidKinds := [.data], laidTests := true, laidLooks := .later }
def StreamRefusedCardSaid : Prop := Claim7.holds Tryz.pinned (.plain (OpenSpec.ofChange streamRefusedSpec)) streamRefusedCard

/-- THE TIED CARD OF 'namedesklaw9.StreamBoundary'. -/
def streamBoundaryCard : Claim7 := { stood := { row := streamBoundaryRow, standIns := [], harness := (true, "0255e733a5a271a0e2accb791b78857f81056a3c5d42263be64dd3125c1f5419"), looks := false }, kinds := [], alts := [], laidByText := true, laidKinds := [.data], laidTests := true, laidLooks := .later }
def StreamBoundaryCardSaid : Prop := Claim7.holds Tryz.pinned (.plain (OpenSpec.ofChange streamBoundarySpec)) streamBoundaryCard

/-- THE TIED CARD OF 'namedesklaw9.StreamTwo'. -/
def streamTwoCard : Claim7 := { stood := { row := streamTwoRow, standIns := [], harness := (true, "0255e733a5a271a0e2accb791b78857f81056a3c5d42263be64dd3125c1f5419"), looks := false }, kinds := [], alts := [], laidByText := true, laidKinds := [.data], laidTests := true, laidLooks := .later }
def StreamTwoCardSaid : Prop := Claim7.holds Tryz.pinned (.plain (OpenSpec.ofChange streamTwoSpec)) streamTwoCard

/-- THE SECOND FORM's CARD OF 'namedesklaw9.StreamNew'. -/
def streamNewUptoCard : Claim7 := { stood := { row := streamNewUptoRow, standIns := [], harness := (true, "0255e733a5a271a0e2accb791b78857f81056a3c5d42263be64dd3125c1f5419"), looks := false }, kinds := [], alts := [], laidByText := true, laidKinds := [.data], laidTests := true, laidLooks := .later }
def StreamNewUptoCardSaid : Prop := Claim7.holds Tryz.pinned (.plain (OpenSpec.upto streamNewSpec)) streamNewUptoCard

/-- THE SECOND FORM's CARD OF 'namedesklaw9.StreamPush'. -/
def streamPushUptoCard : Claim7 := { stood := { row := streamPushUptoRow, standIns := [], harness := (true, "0255e733a5a271a0e2accb791b78857f81056a3c5d42263be64dd3125c1f5419"), looks := false }, kinds := [], alts := [], laidByText := true, laidKinds := [.data], laidTests := true, laidLooks := .later }
def StreamPushUptoCardSaid : Prop := Claim7.holds Tryz.pinned (.plain (OpenSpec.upto streamPushSpec)) streamPushUptoCard

/-- THE SECOND FORM's CARD OF 'namedesklaw9.StreamWhole'. -/
def streamWholeUptoCard : Claim7 := { stood := { row := streamWholeUptoRow, standIns := [], harness := (true, "0255e733a5a271a0e2accb791b78857f81056a3c5d42263be64dd3125c1f5419"), looks := false }, kinds := [], alts := [], laidByText := true, laidKinds := [.data], laidTests := true, laidLooks := .later }
def StreamWholeUptoCardSaid : Prop := Claim7.holds Tryz.pinned (.plain (OpenSpec.upto streamWholeSpec)) streamWholeUptoCard

/-- THE SECOND FORM's CARD OF 'namedesklaw9.StreamRefused'. -/
def streamRefusedUptoCard : Claim7 := { stood := { row := streamRefusedUptoRow, standIns := [], harness := (true, "0255e733a5a271a0e2accb791b78857f81056a3c5d42263be64dd3125c1f5419"), looks := false }, kinds := [], alts := [], laidByText := true, laidKinds := [.data], laidTests := true, laidLooks := .later }
def StreamRefusedUptoCardSaid : Prop := Claim7.holds Tryz.pinned (.plain (OpenSpec.upto streamRefusedSpec)) streamRefusedUptoCard

/-- THE SECOND FORM's CARD OF 'namedesklaw9.StreamBoundary'. -/
def streamBoundaryUptoCard : Claim7 := { stood := { row := streamBoundaryUptoRow, standIns := [], harness := (true, "0255e733a5a271a0e2accb791b78857f81056a3c5d42263be64dd3125c1f5419"), looks := false }, kinds := [], alts := [], laidByText := true, laidKinds := [.data], laidTests := true, laidLooks := .later }
def StreamBoundaryUptoCardSaid : Prop := Claim7.holds Tryz.pinned (.plain (OpenSpec.upto streamBoundarySpec)) streamBoundaryUptoCard

/-- THE SECOND FORM's CARD OF 'namedesklaw9.StreamTwo'. -/
def streamTwoUptoCard : Claim7 := { stood := { row := streamTwoUptoRow, standIns := [], harness := (true, "0255e733a5a271a0e2accb791b78857f81056a3c5d42263be64dd3125c1f5419"), looks := false }, kinds := [], alts := [], laidByText := true, laidKinds := [.data], laidTests := true, laidLooks := .later }
def StreamTwoUptoCardSaid : Prop := Claim7.holds Tryz.pinned (.plain (OpenSpec.upto streamTwoSpec)) streamTwoUptoCard
end Rows
end Go.Proofs.YtfmfifmmaihodaaGreatDoor
