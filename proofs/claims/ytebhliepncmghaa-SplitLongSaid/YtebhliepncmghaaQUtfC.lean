/-
  The contracts of utf.Valid and utf.Decode.
-/
import Derived.Test.YtebhliepncmghaaUtfB
import Derived.Test.YtebhliepncmghaaPkA
set_option linter.unusedSimpArgs false
set_option linter.unusedVariables false
namespace Go.Proofs.Ytebhliepncmghaa
open Go.RowKit

/-- What Decode answers: the list, the position, the error. -/
def decodeS (L : List UInt8) : List Int × Int × Int :=
  if 4096 < L.length then ([], 0, 7) else if (dec L).2 < L.length then ([], ((dec L).2 : Int), 9) else ((dec L).1, 0, 0)

/-- A list, a position, an error; new memory at most. -/
def RetInts2 (r : List Int × Int × Int) (w : World) (e : Ending) (w' : World) : Prop :=
  ∃ v, e = .returned (.tuple #[v, .int .i64 r.2.1, .int .i64 r.2.2]) ∧ Ints w' w.heap.size v r.1 ∧ Below w.heap.size w w'

end Go.Proofs.Ytebhliepncmghaa
