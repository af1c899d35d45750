/-
  joiner: plain mathematics: the neighbours that join, what is permitted, the automaton.
  joiner: what the functions of the layer return, as functions of the tables and the sequence.
-/
import Derived.Test.YtddphlindcabpaaGreatDoorSSlPkB
import Derived.Test.YtddphlindcabpaaGreatDoorSSlPkR
set_option linter.unusedSimpArgs false
set_option linter.unusedVariables false
namespace Go.Proofs.YtddphlindcabpaaGreatDoor
set_option linter.unusedVariables false

end Go.Proofs.YtddphlindcabpaaGreatDoor

namespace Go.Proofs.YtddphlindcabpaaGreatDoor
set_option linter.unusedVariables false

def okI (T : Tb) (l : List Int) (i : Int) : Prop := 0 ≤ i ∧ i < l.length ∧ accE T l = 0
instance (T : Tb) (l : List Int) (i : Int) : Decidable (okI T l i) := by unfold okI; exact inferInstance
end Go.Proofs.YtddphlindcabpaaGreatDoor
