/-
  hangul: plain mathematics: kinds, parts, decompositions, compositions.
-/
import Derived.Test.YtddphlindcabpaaGreatDoorSSlPkA
set_option linter.unusedSimpArgs false
set_option linter.unusedVariables false
namespace Go.Proofs.YtddphlindcabpaaGreatDoor
open Go.RowKit

/-- The decomposition of a syllable. -/
def decS (c : Int) : List Int :=
  if 44032 ≤ c ∧ c ≤ 55203 then
    (if (c - 44032) % 28 = 0 then [4352 + (c - 44032) / 28 / 21, 4449 + (c - 44032) / 28 % 21]
     else [4352 + (c - 44032) / 28 / 21, 4449 + (c - 44032) / 28 % 21, 4519 + (c - 44032) % 28])
  else []

end Go.Proofs.YtddphlindcabpaaGreatDoor
