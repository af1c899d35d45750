/-
  The references of ranges: Check, valid.
-/
import Derived.Test.YtcamkjafpnojkaaDoorSxPkA
set_option linter.unusedSimpArgs false
set_option linter.unusedVariables false
namespace Go.Proofs.YtcamkjafpnojkaaDoor
open Go.RowKit

end Go.Proofs.YtcamkjafpnojkaaDoor
