/-
  The references of table: rule 2.
-/
import Derived.Test.YtgekoeobllhnnaaDoorQTabRC
set_option linter.unusedSimpArgs false
set_option linter.unusedVariables false
namespace Go.Proofs.YtgekoeobllhnnaaDoor
open Go.RowKit
set_option linter.unusedVariables false

end Go.Proofs.YtgekoeobllhnnaaDoor
