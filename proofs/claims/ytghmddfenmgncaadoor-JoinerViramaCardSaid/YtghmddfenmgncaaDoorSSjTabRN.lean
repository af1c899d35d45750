/-
  The references of table: Check.
-/
import Derived.Test.YtghmddfenmgncaaDoorSSjTabRD
import Derived.Test.YtghmddfenmgncaaDoorSSjPkK
import Derived.Test.YtghmddfenmgncaaDoorSSjTabRH
import Derived.Test.YtghmddfenmgncaaDoorSSjTabRL
import Derived.Test.YtghmddfenmgncaaDoorSSjPkE
set_option linter.unusedSimpArgs false
set_option linter.unusedVariables false
namespace Go.Proofs.YtghmddfenmgncaaDoor
open Go.RowKit
set_option linter.unusedVariables false

end Go.Proofs.YtghmddfenmgncaaDoor
