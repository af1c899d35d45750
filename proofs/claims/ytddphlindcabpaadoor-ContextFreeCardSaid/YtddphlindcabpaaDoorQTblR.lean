/-
  Properties of a code point, the program's and the reference's: joining, Bidi, sequences.
-/
import Derived.Test.YtddphlindcabpaaDoorQTblQ
set_option linter.unusedSimpArgs false
set_option linter.unusedVariables false
namespace Go.Proofs.YtddphlindcabpaaDoor
open Go.RowKit
set_option linter.unusedVariables false

end Go.Proofs.YtddphlindcabpaaDoor
