/-
  The references of table: rule 5.
-/
import Derived.Test.YtnmckcfaalakoaaDoorSMaTabRG
import Derived.Test.YtnmckcfaalakoaaDoorSMaTabL
set_option linter.unusedSimpArgs false
set_option linter.unusedVariables false
namespace Go.Proofs.YtnmckcfaalakoaaDoor
open Go.RowKit
set_option linter.unusedVariables false

end Go.Proofs.YtnmckcfaalakoaaDoor
