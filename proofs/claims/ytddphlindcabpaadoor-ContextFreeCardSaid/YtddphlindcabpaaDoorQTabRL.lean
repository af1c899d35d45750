/-
  The references of table: Composable.
-/
import Derived.Test.YtddphlindcabpaaDoorQTabRM
set_option linter.unusedSimpArgs false
set_option linter.unusedVariables false
namespace Go.Proofs.YtddphlindcabpaaDoor
open Go.RowKit
set_option linter.unusedVariables false

end Go.Proofs.YtddphlindcabpaaDoor
