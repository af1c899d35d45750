/-
  A region that draws its order, whose operations read and whose callees may make memory: one walk, in the order of the text.
-/
import Derived.Test.YtiafhifbgdkgaaaDoorQTabRJ
import Derived.Test.YtiafhifbgdkgaaaDoorQTabR
import Derived.BigQuiet
import Derived.Test.YtiafhifbgdkgaaaDoorPkF
set_option linter.unusedSimpArgs false
set_option linter.unusedVariables false
namespace Go.Proofs.YtiafhifbgdkgaaaDoor
open Go.RowKit
set_option linter.unusedVariables false

theorem has_find {T : Tb} (H : CmpH T) (c : Int) : hasM T.dec c = decide (findM T.dec c ≠ []) := by
  cases h : hasM T.dec c with
  | false => rw [findM_nil h]; rfl
  | true => exact (decide_eq_true (H.has h)).symm

theorem compT_nd {T : Tb} {c : Int} (h : findM T.dec c = []) : compT T c = false := compT_not (by rw [h]; simp)

abbrev boxS (w0 : World) (x : TV) (b off : Nat) (a0 a1 : Int) (w' : World) : Prop :=
  w'.cell? ⟨w0.heap.size, 0, none⟩ = some x.a0 ∧ w'.cell? ⟨w0.heap.size, 1, none⟩ = some x.a1 ∧ w'.cell? ⟨w0.heap.size, 2, none⟩ = some x.a2 ∧ w'.cell? ⟨w0.heap.size, 3, none⟩ = some x.a3 ∧ w'.cell? ⟨w0.heap.size, 4, none⟩ = some x.a4 ∧ w'.cell? ⟨w0.heap.size, 5, none⟩ = some x.a5 ∧
    w'.cell? ⟨w0.heap.size, 6, none⟩ = some x.a6 ∧ w'.cell? ⟨w0.heap.size, 7, none⟩ = some x.a7 ∧ w'.cell? ⟨w0.heap.size, 8, none⟩ = some x.a8 ∧ w'.cell? ⟨w0.heap.size, 9, none⟩ = some x.a9 ∧ w'.cell? ⟨w0.heap.size, 10, none⟩ = some x.a10 ∧ w'.cell? ⟨w0.heap.size, 11, none⟩ = some x.a11 ∧
    w'.cell? ⟨b, off, none⟩ = some (.int .i64 a0) ∧ w'.cell? ⟨b, off + 1, none⟩ = some (.int .i64 a1)

theorem two_below {w w' : World} {b off : Nat} {a0 a1 : Int} (h : w.cell? ⟨b, off, none⟩ = some (.int .i64 a0) ∧ w.cell? ⟨b, off + 1, none⟩ = some (.int .i64 a1)) (hb : Below w.heap.size w w') :
    w'.cell? ⟨b, off, none⟩ = some (.int .i64 a0) ∧ w'.cell? ⟨b, off + 1, none⟩ = some (.int .i64 a1) :=
  ⟨(hb.cell (p := ⟨b, off, none⟩) (World.block_lt_of_cell? w _ h.1)).trans h.1, (hb.cell (p := ⟨b, off + 1, none⟩) (World.block_lt_of_cell? w _ h.2)).trans h.2⟩

/-- The box and the two parts, together. -/
structure Env2 (w0 : World) (x : TV) (T : Tb) (b off : Nat) (a0 a1 : Int) (w : World) : Prop where
  env : Env w0 x T w
  two : w.cell? ⟨b, off, none⟩ = some (.int .i64 a0) ∧ w.cell? ⟨b, off + 1, none⟩ = some (.int .i64 a1)
theorem Env2.step {w0 w w' : World} {x : TV} {T : Tb} {b off : Nat} {a0 a1 : Int} (h : Env2 w0 x T b off a0 a1 w) (hb : Below w.heap.size w w') : Env2 w0 x T b off a0 a1 w' := ⟨h.env.step hb, two_below h.two hb⟩
theorem Env2.cells {w0 w : World} {x : TV} {T : Tb} {b off : Nat} {a0 a1 : Int} (h : Env2 w0 x T b off a0 a1 w) : boxS w0 x b off a0 a1 w := h.env.cells h.two.1 h.two.2

theorem first_uniq {l : List Mp} {c : Int} {i j : Nat} (hi : i < l.length) (hj : j < l.length) (h1 : hasM (l.take i) c = false) (e1 : (l.getD i mp0).1 = c) (h2 : hasM (l.take j) c = false) (e2 : (l.getD j mp0).1 = c) : i = j := by
  apply Classical.byContradiction
  intro hne
  have key : ∀ a b, a < b → b < l.length → (l.getD a mp0).1 = c → hasM (l.take b) c = false → False := by
    intro a b hab hb hc h
    have : hasM (l.take b) c = true := by
      rw [hasM_iff]
      refine ⟨l.getD a mp0, ?_, hc⟩
      have hlen : a < (l.take b).length := by simp; omega
      have : l.getD a mp0 = (l.take b)[a] := by simp [show a < l.length by omega]
      rw [this]; exact List.getElem_mem hlen
    rw [h] at this; cases this
  rcases Nat.lt_or_gt_of_ne hne with h | h
  · exact key i j h hj e1 h2
  · exact key j i h hi e2 h1

end Go.Proofs.YtiafhifbgdkgaaaDoor
