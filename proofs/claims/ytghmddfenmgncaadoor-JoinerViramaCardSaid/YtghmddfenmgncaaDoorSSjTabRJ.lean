/-
  The references of table: rule 6.
-/
import Derived.Test.YtghmddfenmgncaaDoorSSjTabRG
import Derived.Test.YtghmddfenmgncaaDoorSSjPkC
set_option linter.unusedSimpArgs false
set_option linter.unusedVariables false
namespace Go.Proofs.YtghmddfenmgncaaDoor
open Go.RowKit
set_option linter.unusedVariables false

end Go.Proofs.YtghmddfenmgncaaDoor
