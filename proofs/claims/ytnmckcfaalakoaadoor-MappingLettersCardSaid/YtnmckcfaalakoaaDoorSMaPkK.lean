/-
  The references of table: rule 3.
  The references of table: rule 4.
-/
import Derived.Test.YtnmckcfaalakoaaDoorSMaTabRC
set_option linter.unusedSimpArgs false
set_option linter.unusedVariables false
namespace Go.Proofs.YtnmckcfaalakoaaDoor
open Go.RowKit
set_option linter.unusedVariables false

end Go.Proofs.YtnmckcfaalakoaaDoor

namespace Go.Proofs.YtnmckcfaalakoaaDoor
open Go.RowKit
set_option linter.unusedVariables false

end Go.Proofs.YtnmckcfaalakoaaDoor
