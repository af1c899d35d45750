/-
  The example of chapter 1: 'awake' returns true.
-/
import Derived.Test.YtebhliepncmghaaQUtfC
import Derived.Test.YtebhliepncmghaaQSame
set_option linter.unusedSimpArgs false
set_option linter.unusedVariables false
namespace Go.Proofs.Ytebhliepncmghaa
open Go.RowKit

/-- A list, a position, an error, with the list's own places. -/
def RetList (xs : List Int) (a er : Int) (w : World) (e : Ending) (w' : World) : Prop :=
  ∃ p cap, e = .returned (.tuple #[.slice p xs.length cap, .int .i64 a, .int .i64 er]) ∧ IntsIn w' p xs ∧ Below w.heap.size w w'

theorem ints_lit_new (w : World) (C : Array Value) (xs : List Int) (t : TypeId) (h : C.toList = xs.map (.int .i64)) : IntsIn (w.alloc (.cells C t)) (some ⟨w.heap.size, 0, none⟩) xs := by
  intro k hk
  refine ⟨_, _, rfl, ?_⟩
  rw [Nat.zero_add, World.cell?_alloc_new, ← Array.getElem?_toList, h]
  simp [hk]

end Go.Proofs.Ytebhliepncmghaa
