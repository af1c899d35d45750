/-
  DERIVED. GIVEN WITH THE SEED: THE CARDS: each row of YtddphlindcabpaaDoorRows.lean that lists a variable, with what it lists TIED to the program's text (the seventh form; the later family's looks); each row that meets fmt, with fmt's text TOLD by the authors' own Lean function (tested against real Go, not proved from fmt's source: count such statements apart). THE CARD IS WHAT COUNTS. Prove the row's statement (the work); the ties are given (YtddphlindcabpaaDoorTie.lean); close each card by the builder's one call (the guide's Derived/Test/ToyasCard.lean, 'card_holds'). Laid BY PROGRAM, IN A SANDBOX (cutbox-door.mjs). By AI agents, Wed Nov 11 2026. No macro, syntax, notation, axiom, sorry.
-/
import Derived.Test.YtddphlindcabpaaDoorRows
import GoSem.ClaimSeven
namespace Go.Proofs.YtddphlindcabpaaDoor
namespace Rows

/-- THE TIED CARD OF 'namedesklaw15.ContextFree'. -/
def contextFreeCard : Claim7 := { stood := { row := contextFreeRow, standIns := [], harness := (true, "836bd641e0380c864a0a5d439874ed77065fcf93ede91fa292666b4ccb70f0fa"), looks := false }, kinds := [], alts := [], laidByText := true, laidKinds := [.data], laidTests := true, laidLooks := .later }
def ContextFreeCardSaid : Prop := Claim7.holds Tryd.pinned (.plain (OpenSpec.ofChange contextFreeSpec)) contextFreeCard

/-- THE TIED CARD OF 'namedesklaw15.ContextTogether'. -/
def contextTogetherCard : Claim7 := { stood := { row := contextTogetherRow, standIns := [], harness := (true, "836bd641e0380c864a0a5d439874ed77065fcf93ede91fa292666b4ccb70f0fa"), looks := false }, kinds := [], alts := [], laidByText := true, laidKinds := [.data], laidTests := true, laidLooks := .later }
def ContextTogetherCardSaid : Prop := Claim7.holds Tryd.pinned (.plain (OpenSpec.ofChange contextTogetherSpec)) contextTogetherCard

/-- THE TIED CARD OF 'namedesklaw15.ContextDigits'. -/
def contextDigitsCard : Claim7 := { stood := { row := contextDigitsRow, standIns := [], harness := (true, "836bd641e0380c864a0a5d439874ed77065fcf93ede91fa292666b4ccb70f0fa"), looks := false }, kinds := [], alts := [], laidByText := true, laidKinds := [.data], laidTests := true, laidLooks := .later }
def ContextDigitsCardSaid : Prop := Claim7.holds Tryd.pinned (.plain (OpenSpec.ofChange contextDigitsSpec)) contextDigitsCard

/-- THE SECOND FORM's CARD OF 'namedesklaw15.ContextFree'. -/
def contextFreeUptoCard : Claim7 := { stood := { row := contextFreeUptoRow, standIns := [], harness := (true, "836bd641e0380c864a0a5d439874ed77065fcf93ede91fa292666b4ccb70f0fa"), looks := false }, kinds := [], alts := [], laidByText := true, laidKinds := [.data], laidTests := true, laidLooks := .later }
def ContextFreeUptoCardSaid : Prop := Claim7.holds Tryd.pinned (.plain (OpenSpec.upto contextFreeSpec)) contextFreeUptoCard

/-- THE SECOND FORM's CARD OF 'namedesklaw15.ContextTogether'. -/
def contextTogetherUptoCard : Claim7 := { stood := { row := contextTogetherUptoRow, standIns := [], harness := (true, "836bd641e0380c864a0a5d439874ed77065fcf93ede91fa292666b4ccb70f0fa"), looks := false }, kinds := [], alts := [], laidByText := true, laidKinds := [.data], laidTests := true, laidLooks := .later }
def ContextTogetherUptoCardSaid : Prop := Claim7.holds Tryd.pinned (.plain (OpenSpec.upto contextTogetherSpec)) contextTogetherUptoCard

/-- THE SECOND FORM's CARD OF 'namedesklaw15.ContextDigits'. -/
def contextDigitsUptoCard : Claim7 := { stood := { row := contextDigitsUptoRow, standIns := [], harness := (true, "836bd641e0380c864a0a5d439874ed77065fcf93ede91fa292666b4ccb70f0fa"), looks := false }, kinds := [], alts := [], laidByText := true, laidKinds := [.data], laidTests := true, laidLooks := .later }
def ContextDigitsUptoCardSaid : Prop := Claim7.holds Tryd.pinned (.plain (OpenSpec.upto contextDigitsSpec)) contextDigitsUptoCard
end Rows
end Go.Proofs.YtddphlindcabpaaDoor
