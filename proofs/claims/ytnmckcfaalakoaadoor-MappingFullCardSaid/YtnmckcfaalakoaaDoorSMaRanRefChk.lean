/-
  The references of ranges: Check, valid.
-/
import Derived.Test.YtnmckcfaalakoaaDoorSMaPkA
set_option linter.unusedSimpArgs false
set_option linter.unusedVariables false
namespace Go.Proofs.YtnmckcfaalakoaaDoor
open Go.RowKit

end Go.Proofs.YtnmckcfaalakoaaDoor
