/-
  table.Encode.
-/
import Derived.Test.YtnnhcgflmhjakaaGreatDoorQEncR
import Derived.Test.YtnnhcgflmhjakaaGreatDoorPkN
import Derived.Test.YtnnhcgflmhjakaaGreatDoorPkE
set_option linter.unusedSimpArgs false
set_option linter.unusedVariables false
namespace Go.Proofs.YtnnhcgflmhjakaaGreatDoor
open Go Go.RowKit
set_option linter.unusedVariables false

theorem strCells_append (a b : ByteArray) : Lib.strCells (a ++ b) = Lib.strCells a ++ Lib.strCells b := by simp [Lib.strCells]

theorem accS_big (b : ByteArray) (L : List (List Sp)) : b.size ≤ (accS b L).size := by
  induction L generalizing b with
  | nil => exact Nat.le_refl _
  | cons l r ih => have := ih (b ++ encSp l); rw [ByteArray.size_append] at this; simp only [accS]; omega
theorem accR_big (b : ByteArray) (L : List Mp) : b.size ≤ (accR b L).size := by
  induction L generalizing b with
  | nil => exact Nat.le_refl _
  | cons l r ih => have := ih (b ++ encRow l); rw [ByteArray.size_append] at this; simp only [accR]; omega
theorem accM_big (b : ByteArray) (L : List (List Mp)) : b.size ≤ (accM b L).size := by
  induction L generalizing b with
  | nil => exact Nat.le_refl _
  | cons l r ih =>
    have h1 := ih (accR (b ++ putB l.length) l)
    have h2 := accR_big (b ++ putB l.length) l
    rw [ByteArray.size_append] at h2
    simp only [accM]; omega
theorem rowsB_big (T : Tb) : 4 ≤ (rowsB T).size := by
  have h1 := accM_big (accS sigB (spansT T)) (mpsT T)
  have h2 := accS_big sigB (spansT T)
  have h3 : sigB.size = 4 := rfl
  rw [rowsB, ByteArray.size_append]; omega

end Go.Proofs.YtnnhcgflmhjakaaGreatDoor
