/-
  hangul: plain mathematics: kinds, parts, decompositions, compositions.
  The contracts of hangul: isWithin, Parts, Kind, Compose, Decompose.
-/
import Derived.Test.YtnmckcfaalakoaaGreatDoorSMbPkA
set_option linter.unusedSimpArgs false
set_option linter.unusedVariables false
namespace Go.Proofs.YtnmckcfaalakoaaGreatDoor
open Go.RowKit

/-- The decomposition of a syllable. -/
def decS (c : Int) : List Int :=
  if 44032 ≤ c ∧ c ≤ 55203 then
    (if (c - 44032) % 28 = 0 then [4352 + (c - 44032) / 28 / 21, 4449 + (c - 44032) / 28 % 21]
     else [4352 + (c - 44032) / 28 / 21, 4449 + (c - 44032) / 28 % 21, 4519 + (c - 44032) % 28])
  else []

end Go.Proofs.YtnmckcfaalakoaaGreatDoor

namespace Go.Proofs.YtnmckcfaalakoaaGreatDoor
open Go.RowKit
set_option linter.unusedVariables false

end Go.Proofs.YtnmckcfaalakoaaGreatDoor
