/-
  The references of table: the walk of Check.
-/
import Derived.Test.YtghmddfenmgncaaDoorSSjTabRN
set_option linter.unusedSimpArgs false
set_option linter.unusedVariables false
namespace Go.Proofs.YtghmddfenmgncaaDoor
open Go.RowKit
set_option linter.unusedVariables false

end Go.Proofs.YtghmddfenmgncaaDoor
