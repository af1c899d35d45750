/-
  The references of table: rule 5.
-/
import Derived.Test.YtiafhifbgdkgaaaDoorQTabRG
import Derived.Test.YtiafhifbgdkgaaaDoorQTabL
set_option linter.unusedSimpArgs false
set_option linter.unusedVariables false
namespace Go.Proofs.YtiafhifbgdkgaaaDoor
open Go.RowKit
set_option linter.unusedVariables false

end Go.Proofs.YtiafhifbgdkgaaaDoor
