/-
  Strings as lists of bytes: back and forth, comparisons.
-/
import Derived.Test.YtebhliepncmghaaPkL
import Derived.Laws.BytesArg
import Derived.WalkKit
set_option linter.unusedSimpArgs false
set_option linter.unusedVariables false
namespace Go.Proofs.Ytebhliepncmghaa
open Go.RowKit

theorem sOfN (s : ByteArray) : strOfNums (nums s) = s := by
  apply ByteArray.ext
  apply Array.ext'
  have e : ((fun n : Int => UInt8.ofNat n.toNat) ∘ fun b : UInt8 => (b.toNat : Int)) = id := by funext b; simp
  simp [strOfNums, nums, e]
theorem nums_injN {a b : ByteArray} (h : nums a = nums b) : a = b := by rw [← sOfN a, ← sOfN b, h]
theorem beq_numsN (a b : ByteArray) : (a.toList == b.toList) = decide (nums a = nums b) := by
  rw [ByteArray.toList_eq, ByteArray.toList_eq]
  by_cases h : nums a = nums b
  · have := nums_injN h
    subst this
    simp
  · have h2 : ¬ a.data = b.data := fun e => h (by rw [show a = b from ByteArray.ext e])
    simp [h, h2]
theorem size_posN (S : ByteArray) (h : ¬ S.size = 0) : (S.toList == []) = false := by
  rw [ByteArray.toList_eq]
  cases hd : S.data.toList with
  | nil => exact absurd (by rw [show S.size = S.data.toList.length from rfl, hd]; rfl) h
  | cons c r => rfl
theorem size_zeroN (S : ByteArray) (h : S.size = 0) : (S.toList == []) = true := by
  rw [ByteArray.toList_eq]
  have : S.data.toList = [] := List.eq_nil_of_length_eq_zero h
  rw [this]; rfl
theorem nums_getN2 (s : ByteArray) (j : Nat) (h : j < s.size) : (nums s).getD j 0 = (s[j].toNat : Int) := by
  have hl : j < (nums s).length := by rw [nums_length]; exact h
  rw [List.getD_eq_getElem?_getD, List.getElem?_eq_getElem hl]
  simp [nums]
  rfl
theorem nums_oneN (s : ByteArray) (k : Nat) (h : k < s.size) : nums (s.extract k (k + 1)) = [(s[k].toNat : Int)] := by
  have hl : (nums (s.extract k (k + 1))).length = 1 := by rw [nums_length, ByteArray.size_extract]; omega
  obtain ⟨a, ha⟩ := List.length_eq_one_iff.1 hl
  rw [ha]
  have h2 : (nums (s.extract k (k + 1))).getD 0 0 = a := by rw [ha]; rfl
  rw [nums_getN2 _ 0 (by rw [ByteArray.size_extract]; omega)] at h2
  rw [← h2]
  congr 2
  simp [ByteArray.getElem_extract]

end Go.Proofs.Ytebhliepncmghaa
