/-
  The contracts of keep.point, keep.Points; of table.Maps.
  slices.Clone, table.sequenceOf, table.Maps; what well-formed tables map.
-/
import Derived.Test.YtcamkjafpnojkaaDoorSxTblJ
set_option linter.unusedSimpArgs false
set_option linter.unusedVariables false
namespace Go.Proofs.YtcamkjafpnojkaaDoor
open Go.RowKit
set_option linter.unusedVariables false

end Go.Proofs.YtcamkjafpnojkaaDoor

namespace Go.Proofs.YtcamkjafpnojkaaDoor
open Go.RowKit
set_option linter.unusedVariables false

end Go.Proofs.YtcamkjafpnojkaaDoor
