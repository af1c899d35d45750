/-
  The references of table: Composable.
-/
import Derived.Test.YtiafhifbgdkgaaaDoorQTabRM
set_option linter.unusedSimpArgs false
set_option linter.unusedVariables false
namespace Go.Proofs.YtiafhifbgdkgaaaDoor
open Go.RowKit
set_option linter.unusedVariables false

end Go.Proofs.YtiafhifbgdkgaaaDoor
