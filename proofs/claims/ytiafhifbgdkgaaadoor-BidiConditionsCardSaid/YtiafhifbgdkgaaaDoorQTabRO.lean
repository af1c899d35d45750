/-
  The references of table: the walk of Check.
-/
import Derived.Test.YtiafhifbgdkgaaaDoorQTabRN
set_option linter.unusedSimpArgs false
set_option linter.unusedVariables false
namespace Go.Proofs.YtiafhifbgdkgaaaDoor
open Go.RowKit
set_option linter.unusedVariables false

def elP (T : Tb) (c : Int) : Bool := !hasM T.pro c && (!sylB c && plain T c)

end Go.Proofs.YtiafhifbgdkgaaaDoor
