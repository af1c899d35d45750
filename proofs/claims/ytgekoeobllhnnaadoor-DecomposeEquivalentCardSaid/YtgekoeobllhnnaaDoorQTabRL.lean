/-
  The references of table: Composable.
-/
import Derived.Test.YtgekoeobllhnnaaDoorQTabRM
set_option linter.unusedSimpArgs false
set_option linter.unusedVariables false
namespace Go.Proofs.YtgekoeobllhnnaaDoor
open Go.RowKit
set_option linter.unusedVariables false

end Go.Proofs.YtgekoeobllhnnaaDoor
