/-
  The references of table: Check.
-/
import Derived.Test.YtnmckcfaalakoaaDoorSMaTabRD
import Derived.Test.YtnmckcfaalakoaaDoorSMaPkK
import Derived.Test.YtnmckcfaalakoaaDoorSMaTabRH
import Derived.Test.YtnmckcfaalakoaaDoorSMaTabRL
import Derived.Test.YtnmckcfaalakoaaDoorSMaPkE
set_option linter.unusedSimpArgs false
set_option linter.unusedVariables false
namespace Go.Proofs.YtnmckcfaalakoaaDoor
open Go.RowKit
set_option linter.unusedVariables false

theorem r2_sta {T : Tb} (h : r2 T = true) : spOk T.sta = true := by
  simp only [r2, spansT, List.all_cons, List.all_nil, Bool.and_eq_true] at h; exact h.1.2.2.2.2.2.1

end Go.Proofs.YtnmckcfaalakoaaDoor
