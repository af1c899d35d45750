/-
  Contracts of the small functions of package utf.
-/
import Derived.Test.YtebhliepncmghaaRows
import Derived.Test.YtebhliepncmghaaUtfSpec
import Derived.Test.YtebhliepncmghaaBits
import Derived.WalkKit
import Derived.WalkSpells
import Derived.WalkLawsBesides
namespace Go.Proofs.Ytebhliepncmghaa
open Go.RowKit

theorem Try.info5 : (Try.prog.info? 5).map (fun i => (i.zero, i.size, i.bytes)) = some (some (.int .u8 0), 1, 1) := by kernel_rfl

/-- What an append leaves: the slice that is returned owns the old elements and the new ones; below B nothing has changed. -/
def Appended (B : Nat) (n : Nat) (xs : List Value) (news : List Int) (w : World) (e : Ending) (w' : World) : Prop :=
  ∃ v', e = .returned v' ∧ w'.ownsRow B 5 1 v' (n + news.length) (xs ++ news.map (.int .u8)) ∧ Below B w w'

theorem cells_lit_new (w : World) (C : Array Value) (t : TypeId) (l : List Value) (h : C.toList = l) : ∀ j u, l[j]? = some u → (w.alloc (.cells C t)).cell? ((⟨w.heap.size, 0, none⟩ : Addr).add j) = some u := by
  intro j u hu
  subst h
  rw [Addr.add_lit, World.cell?_alloc_new]
  simpa using hu

end Go.Proofs.Ytebhliepncmghaa
