/-
  The references of table: rule 5.
-/
import Derived.Test.YtddphlindcabpaaDoorQTabRG
import Derived.Test.YtddphlindcabpaaDoorQTabL
set_option linter.unusedSimpArgs false
set_option linter.unusedVariables false
namespace Go.Proofs.YtddphlindcabpaaDoor
open Go.RowKit
set_option linter.unusedVariables false

end Go.Proofs.YtddphlindcabpaaDoor
