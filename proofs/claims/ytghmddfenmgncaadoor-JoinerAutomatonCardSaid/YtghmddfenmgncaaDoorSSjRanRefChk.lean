/-
  The references of ranges: Check, valid.
-/
import Derived.Test.YtghmddfenmgncaaDoorSSjPkA
set_option linter.unusedSimpArgs false
set_option linter.unusedVariables false
namespace Go.Proofs.YtghmddfenmgncaaDoor
open Go.RowKit

end Go.Proofs.YtghmddfenmgncaaDoor
