/-
  DERIVED. GIVEN WITH THE SEED: THE CARDS: each row of YtghmddfenmgncaaGreatDoorRows.lean that lists a variable, with what it lists TIED to the program's text (the seventh form; the later family's looks); each row that meets fmt, with fmt's text TOLD by the authors' own Lean function (tested against real Go, not proved from fmt's source: count such statements apart). THE CARD IS WHAT COUNTS. Prove the row's statement (the work); the ties are given (YtghmddfenmgncaaGreatDoorTie.lean); close each card by the builder's one call (the guide's Derived/Test/ToyasCard.lean, 'card_holds'). Laid BY PROGRAM, IN A SANDBOX (cutbox-door.mjs). By AI agents, Wed Nov 11 2026. No macro, syntax, notation, axiom, sorry.
-/
import Derived.Test.YtghmddfenmgncaaGreatDoorRows
import GoSem.ClaimSeven
namespace Go.Proofs.YtghmddfenmgncaaGreatDoor
namespace Rows

/-- THE TIED CARD OF 'namedesklaw14.JoinerMade'. -/
def joinerMadeCard : Claim7 := { stood := { row := joinerMadeRow, standIns := [], harness := (true, "27fc233d480ee35d13a1993e2a7abdc65df895ed79a1b84221ec864421ca78e6"), looks := false }, kinds := [], alts := [], laidByText := true, laidKinds := [.data], laidTests := true, laidLooks := .later }
def JoinerMadeCardSaid : Prop := Claim7.holds Tryz.pinned (.plain (OpenSpec.ofChange joinerMadeSpec)) joinerMadeCard

/-- THE TIED CARD OF 'namedesklaw14.JoinerErrors'. -/
def joinerErrorsCard : Claim7 := { stood := { row := joinerErrorsRow, standIns := [], harness := (true, "27fc233d480ee35d13a1993e2a7abdc65df895ed79a1b84221ec864421ca78e6"), looks := false }, kinds := [], alts := [], laidByText := true, laidKinds := [.data], laidTests := true, laidLooks := .later }
def JoinerErrorsCardSaid : Prop := Claim7.holds Tryz.pinned (.plain (OpenSpec.ofChange joinerErrorsSpec)) joinerErrorsCard

/-- THE SECOND FORM's CARD OF 'namedesklaw14.JoinerMade'. -/
def joinerMadeUptoCard : Claim7 := { stood := { row := joinerMadeUptoRow, standIns := [], harness := (true, "27fc233d480ee35d13a1993e2a7abdc65df895ed79a1b84221ec864421ca78e6"), looks := false }, kinds := [], alts := [], laidByText := true, laidKinds := [.data], laidTests := true, laidLooks := .later }
def JoinerMadeUptoCardSaid : Prop := Claim7.holds Tryz.pinned (.plain (OpenSpec.upto joinerMadeSpec)) joinerMadeUptoCard

/-- THE SECOND FORM's CARD OF 'namedesklaw14.JoinerErrors'. -/
def joinerErrorsUptoCard : Claim7 := { stood := { row := joinerErrorsUptoRow, standIns := [], harness := (true, "27fc233d480ee35d13a1993e2a7abdc65df895ed79a1b84221ec864421ca78e6"), looks := false }, kinds := [], alts := [], laidByText := true, laidKinds := [.data], laidTests := true, laidLooks := .later }
def JoinerErrorsUptoCardSaid : Prop := Claim7.holds Tryz.pinned (.plain (OpenSpec.upto joinerErrorsSpec)) joinerErrorsUptoCard
end Rows
end Go.Proofs.YtghmddfenmgncaaGreatDoor
