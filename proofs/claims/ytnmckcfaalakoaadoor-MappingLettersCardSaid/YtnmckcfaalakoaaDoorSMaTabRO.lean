/-
  The references of table: the walk of Check.
-/
import Derived.Test.YtnmckcfaalakoaaDoorSMaTabRN
set_option linter.unusedSimpArgs false
set_option linter.unusedVariables false
namespace Go.Proofs.YtnmckcfaalakoaaDoor
open Go.RowKit
set_option linter.unusedVariables false

end Go.Proofs.YtnmckcfaalakoaaDoor
