/-
  keep.usual, keep.choose.
-/
import Derived.Test.YtfmfifmmaihodaaGreatDoorSxPkG
set_option linter.unusedSimpArgs false
set_option linter.unusedVariables false
namespace Go.Proofs.YtfmfifmmaihodaaGreatDoor
open Go.RowKit
set_option linter.unusedVariables false

/-- The bounds of the six properties. -/
structure Six (u : Nat → Int) : Prop where
  cat : 0 ≤ u 0 ∧ u 0 ≤ 8
  cls : 0 ≤ u 1 ∧ u 1 ≤ 254
  joi : 0 ≤ u 2 ∧ u 2 ≤ 5
  bid : 0 ≤ u 3 ∧ u 3 ≤ 11
  scr : 0 ≤ u 4 ∧ u 4 ≤ 60
  sta : u 5 = 0 ∨ u 5 = 1 ∨ u 5 = 2 ∨ u 5 = 4

def sixF (a b c d e f : Int) : Nat → Int := fun i => [a, b, c, d, e, f].getD i 0
abbrev sixV (u : Nat → Int) : Value := .agg #[.int .i64 (u 0), .int .i64 (u 1), .int .i64 (u 2), .int .i64 (u 3), .int .i64 (u 4), .int .i64 (u 5)]

theorem next_at (g : Nat) (r : List Int) (n v : Int) (w : World) (hs : Src w g r) (h0 : 1 ≤ n) (h1 : n ≤ 1073741824) (hv : Hid (nextV r n = v)) :
    Calls Tryz.prog 27 #[.pointer (some ⟨g, 0, none⟩), .int .i64 n] w (NextPost g v r.tail w) := hv.out ▸ next_any g r n w hs h0 h1

theorem getD_mem_int (l : List Int) (k : Nat) (h : k < l.length) : l.getD k 0 ∈ l := by simp [h]

end Go.Proofs.YtfmfifmmaihodaaGreatDoor
