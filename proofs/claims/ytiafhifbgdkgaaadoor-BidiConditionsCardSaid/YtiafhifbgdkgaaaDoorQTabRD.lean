/-
  The references of table: rule 2.
-/
import Derived.Test.YtiafhifbgdkgaaaDoorQTabRC
set_option linter.unusedSimpArgs false
set_option linter.unusedVariables false
namespace Go.Proofs.YtiafhifbgdkgaaaDoor
open Go.RowKit
set_option linter.unusedVariables false

end Go.Proofs.YtiafhifbgdkgaaaDoor
