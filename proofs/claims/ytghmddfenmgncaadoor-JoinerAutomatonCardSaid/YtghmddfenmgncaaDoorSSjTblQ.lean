/-
  The contracts of keep.point, keep.Points; of table.Maps.
  slices.Clone, table.sequenceOf, table.Maps; what well-formed tables map.
-/
import Derived.Test.YtghmddfenmgncaaDoorSSjTblJ
set_option linter.unusedSimpArgs false
set_option linter.unusedVariables false
namespace Go.Proofs.YtghmddfenmgncaaDoor
open Go.RowKit
set_option linter.unusedVariables false

/-- What 'Points' leaves: at most ten scalar values in a new slice. -/
def PointsPost (w : World) (e : Ending) (w' : World) : Prop :=
  ∃ (xs : List Int) (v : Value), e = .returned v ∧ xs.length ≤ 10 ∧ xs.all scaB = true ∧ Ints w' w.heap.size v xs ∧ Below w.heap.size w w'

end Go.Proofs.YtghmddfenmgncaaDoor

namespace Go.Proofs.YtghmddfenmgncaaDoor
open Go.RowKit
set_option linter.unusedVariables false

end Go.Proofs.YtghmddfenmgncaaDoor
