/-
  The contracts of keep.point, keep.Points; of table.Maps.
  slices.Clone, table.sequenceOf, table.Maps; what well-formed tables map.
-/
import Derived.Test.YtfmfifmmaihodaaGreatDoorSxTblJ
set_option linter.unusedSimpArgs false
set_option linter.unusedVariables false
namespace Go.Proofs.YtfmfifmmaihodaaGreatDoor
open Go.RowKit
set_option linter.unusedVariables false

end Go.Proofs.YtfmfifmmaihodaaGreatDoor

namespace Go.Proofs.YtfmfifmmaihodaaGreatDoor
open Go.RowKit
set_option linter.unusedVariables false

end Go.Proofs.YtfmfifmmaihodaaGreatDoor
