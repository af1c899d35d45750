/-
  keep.usual, keep.choose.
-/
import Derived.Test.YtcamkjafpnojkaaDoorSxPkG
set_option linter.unusedSimpArgs false
set_option linter.unusedVariables false
namespace Go.Proofs.YtcamkjafpnojkaaDoor
open Go.RowKit
set_option linter.unusedVariables false

/-- The bounds of the six properties. -/
structure Six (u : Nat → Int) : Prop where
  cat : 0 ≤ u 0 ∧ u 0 ≤ 8
  cls : 0 ≤ u 1 ∧ u 1 ≤ 254
  joi : 0 ≤ u 2 ∧ u 2 ≤ 5
  bid : 0 ≤ u 3 ∧ u 3 ≤ 11
  scr : 0 ≤ u 4 ∧ u 4 ≤ 60
  sta : u 5 = 0 ∨ u 5 = 1 ∨ u 5 = 2 ∨ u 5 = 4

end Go.Proofs.YtcamkjafpnojkaaDoor
