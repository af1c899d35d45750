/-
  The references of table: Check.
-/
import Derived.Test.YtcamkjafpnojkaaDoorSxTabRD
import Derived.Test.YtcamkjafpnojkaaDoorSxPkK
import Derived.Test.YtcamkjafpnojkaaDoorSxTabRH
import Derived.Test.YtcamkjafpnojkaaDoorSxTabRL
import Derived.Test.YtcamkjafpnojkaaDoorSxPkE
set_option linter.unusedSimpArgs false
set_option linter.unusedVariables false
namespace Go.Proofs.YtcamkjafpnojkaaDoor
open Go.RowKit
set_option linter.unusedVariables false

end Go.Proofs.YtcamkjafpnojkaaDoor
