/-
  The library's stable sort: the merge in place, whole.
-/
import Derived.Test.YtmnnpfohjffniaaQPunSrtC
set_option linter.unusedSimpArgs false
set_option linter.unusedVariables false
namespace Go.Proofs.Ytmnnpfohjffniaa
open Go.RowKit Go.Sort
set_option linter.unusedVariables false

theorem sym0_bd {a m b s0 r0 : Nat} (h : sym0 a m b = (s0, r0)) (ha : a + 2 ≤ m) (hb : m + 2 ≤ b) : a ≤ s0 ∧ s0 ≤ r0 ∧ r0 ≤ m ∧ r0 ≤ (a + b) / 2 ∧ (a + b) / 2 + m ≤ b + s0 ∧ ((a + b) / 2 < m → s0 = (a + b) / 2 + m - b ∧ r0 = (a + b) / 2) ∧ (¬ (a + b) / 2 < m → s0 = a ∧ r0 = m) := by
  unfold sym0 at h
  split at h
  · injection h with h1 h2; omega
  · injection h with h1 h2; omega

/-- A part that is left alone is sorted. -/
theorem Mrg.idle {l : List Int} {a m b : Nat} {d : Array Int} (h : Mrg l a m b d) (hn : ¬ (a < m ∧ m < b)) : SortedIn (ltT l) a b d := by
  have h1 := h.am
  have h2 := h.mb
  by_cases e : a = m
  · subst e; exact h.right
  · obtain rfl : m = b := by omega
    exact h.left

end Go.Proofs.Ytmnnpfohjffniaa
