/-
  The references of table: rule 5.
-/
import Derived.Test.YtcamkjafpnojkaaDoorSxTabRG
import Derived.Test.YtcamkjafpnojkaaDoorSxTabL
set_option linter.unusedSimpArgs false
set_option linter.unusedVariables false
namespace Go.Proofs.YtcamkjafpnojkaaDoor
open Go.RowKit
set_option linter.unusedVariables false

end Go.Proofs.YtcamkjafpnojkaaDoor
