/-
  The references of table: Composable.
-/
import Derived.Test.YtcamkjafpnojkaaDoorSxTabRM
set_option linter.unusedSimpArgs false
set_option linter.unusedVariables false
namespace Go.Proofs.YtcamkjafpnojkaaDoor
open Go.RowKit
set_option linter.unusedVariables false

end Go.Proofs.YtcamkjafpnojkaaDoor
