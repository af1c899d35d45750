/-
  The references of table: rule 6.
-/
import Derived.Test.YtnmckcfaalakoaaDoorSMaTabRG
import Derived.Test.YtnmckcfaalakoaaDoorSMaPkC
set_option linter.unusedSimpArgs false
set_option linter.unusedVariables false
namespace Go.Proofs.YtnmckcfaalakoaaDoor
open Go.RowKit
set_option linter.unusedVariables false

end Go.Proofs.YtnmckcfaalakoaaDoor
