/-
  The references of table: Composable.
-/
import Derived.Test.YtnmckcfaalakoaaDoorSMaTabRM
set_option linter.unusedSimpArgs false
set_option linter.unusedVariables false
namespace Go.Proofs.YtnmckcfaalakoaaDoor
open Go.RowKit
set_option linter.unusedVariables false

end Go.Proofs.YtnmckcfaalakoaaDoor
