/-
  The references of table: rule 3.
  The references of table: rule 4.
-/
import Derived.Test.YtcamkjafpnojkaaDoorSxTabRC
set_option linter.unusedSimpArgs false
set_option linter.unusedVariables false
namespace Go.Proofs.YtcamkjafpnojkaaDoor
open Go.RowKit
set_option linter.unusedVariables false

end Go.Proofs.YtcamkjafpnojkaaDoor

namespace Go.Proofs.YtcamkjafpnojkaaDoor
open Go.RowKit
set_option linter.unusedVariables false

end Go.Proofs.YtcamkjafpnojkaaDoor
