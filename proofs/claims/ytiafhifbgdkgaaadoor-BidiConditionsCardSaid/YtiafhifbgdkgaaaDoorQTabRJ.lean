/-
  The references of table: rule 6.
-/
import Derived.Test.YtiafhifbgdkgaaaDoorQTabRG
import Derived.Test.YtiafhifbgdkgaaaDoorPkC
set_option linter.unusedSimpArgs false
set_option linter.unusedVariables false
namespace Go.Proofs.YtiafhifbgdkgaaaDoor
open Go.RowKit
set_option linter.unusedVariables false

/-- What the references' full returns. -/
def GivesF (R : Option (List Int)) (w : World) (e : Ending) (w' : World) : Prop :=
  (∀ fl, R = some fl → ∃ p n cp, e = .returned (.tuple #[.slice p n cp, .bool true]) ∧ fl.length = n ∧ n ≤ 18 ∧ IntsIn w' p fl) ∧
  (R = none → e = .returned (.tuple #[.slice none 0 0, .bool false])) ∧ Below w.heap.size w w'

theorem exp1_take {l : List Mp} {xs : List Int} (j : Nat) (hj : j < xs.length) : exp1 l (xs.take (j + 1)) = exp1 l (xs.take j) ++ if findM l (xs.getD j 0) = [] then [xs.getD j 0] else findM l (xs.getD j 0) := by
  rw [take_snoc_int xs j hj, exp1_snoc]
theorem endB_take {l : List Mp} {xs : List Int} (j : Nat) (hj : j < xs.length) : endB l (xs.take (j + 1)) = (endB l (xs.take j) && decide (findM l (xs.getD j 0) = [])) := by
  rw [take_snoc_int xs j hj, endB_snoc]

end Go.Proofs.YtiafhifbgdkgaaaDoor
