/-
  A region that draws its order, whose operations read and whose callees may make memory: one walk, in the order of the text.
-/
import Derived.Test.YtghmddfenmgncaaDoorSSjTabRJ
import Derived.Test.YtghmddfenmgncaaDoorSSjTabR
import Derived.BigQuiet
import Derived.Test.YtghmddfenmgncaaDoorSSjPkF
set_option linter.unusedSimpArgs false
set_option linter.unusedVariables false
namespace Go.Proofs.YtghmddfenmgncaaDoor
open Go.RowKit
set_option linter.unusedVariables false

abbrev boxS (w0 : World) (x : TV) (b off : Nat) (a0 a1 : Int) (w' : World) : Prop :=
  w'.cell? ⟨w0.heap.size, 0, none⟩ = some x.a0 ∧ w'.cell? ⟨w0.heap.size, 1, none⟩ = some x.a1 ∧ w'.cell? ⟨w0.heap.size, 2, none⟩ = some x.a2 ∧ w'.cell? ⟨w0.heap.size, 3, none⟩ = some x.a3 ∧ w'.cell? ⟨w0.heap.size, 4, none⟩ = some x.a4 ∧ w'.cell? ⟨w0.heap.size, 5, none⟩ = some x.a5 ∧
    w'.cell? ⟨w0.heap.size, 6, none⟩ = some x.a6 ∧ w'.cell? ⟨w0.heap.size, 7, none⟩ = some x.a7 ∧ w'.cell? ⟨w0.heap.size, 8, none⟩ = some x.a8 ∧ w'.cell? ⟨w0.heap.size, 9, none⟩ = some x.a9 ∧ w'.cell? ⟨w0.heap.size, 10, none⟩ = some x.a10 ∧ w'.cell? ⟨w0.heap.size, 11, none⟩ = some x.a11 ∧
    w'.cell? ⟨b, off, none⟩ = some (.int .i64 a0) ∧ w'.cell? ⟨b, off + 1, none⟩ = some (.int .i64 a1)

theorem two_below {w w' : World} {b off : Nat} {a0 a1 : Int} (h : w.cell? ⟨b, off, none⟩ = some (.int .i64 a0) ∧ w.cell? ⟨b, off + 1, none⟩ = some (.int .i64 a1)) (hb : Below w.heap.size w w') :
    w'.cell? ⟨b, off, none⟩ = some (.int .i64 a0) ∧ w'.cell? ⟨b, off + 1, none⟩ = some (.int .i64 a1) :=
  ⟨(hb.cell (p := ⟨b, off, none⟩) (World.block_lt_of_cell? w _ h.1)).trans h.1, (hb.cell (p := ⟨b, off + 1, none⟩) (World.block_lt_of_cell? w _ h.2)).trans h.2⟩

/-- The box and the two parts, together. -/
structure Env2 (w0 : World) (x : TV) (T : Tb) (b off : Nat) (a0 a1 : Int) (w : World) : Prop where
  env : Env w0 x T w
  two : w.cell? ⟨b, off, none⟩ = some (.int .i64 a0) ∧ w.cell? ⟨b, off + 1, none⟩ = some (.int .i64 a1)
theorem Env2.step {w0 w w' : World} {x : TV} {T : Tb} {b off : Nat} {a0 a1 : Int} (h : Env2 w0 x T b off a0 a1 w) (hb : Below w.heap.size w w') : Env2 w0 x T b off a0 a1 w' := ⟨h.env.step hb, two_below h.two hb⟩
theorem Env2.cells {w0 w : World} {x : TV} {T : Tb} {b off : Nat} {a0 a1 : Int} (h : Env2 w0 x T b off a0 a1 w) : boxS w0 x b off a0 a1 w := h.env.cells h.two.1 h.two.2

end Go.Proofs.YtghmddfenmgncaaDoor
