/-
  The references of ranges: Check, valid.
-/
import Derived.Test.YtiafhifbgdkgaaaDoorPkA
set_option linter.unusedSimpArgs false
set_option linter.unusedVariables false
namespace Go.Proofs.YtiafhifbgdkgaaaDoor
open Go.RowKit

def okS (l : List Sp) (lo hi : Int) : Bool := ascB 0 l && l.all fun s => decide (lo ≤ s.1) && decide (s.2.1 ≤ hi)

theorem checkS_ok (l : List Sp) (lo hi : Int) : checkS l lo hi = (decide (l.length ≤ 256) && okS l lo hi) := by
  simp only [checkS, validS, okS, Bool.and_assoc]

theorem okS_snoc (a : List Sp) (s : Sp) (lo hi : Int) : okS (a ++ [s]) lo hi = true ↔ okS a lo hi = true ∧ ¬ (s.1 < ends 0 a ∨ s.2.1 < s.1 ∨ 1114111 < s.2.1 ∨ s.1 < lo ∨ hi < s.2.1) := by
  simp only [okS, Bool.and_eq_true, asc_snoc_iff, List.all_append, List.all_cons, List.all_nil, Bool.and_true, decide_eq_true_eq]
  constructor
  · rintro ⟨⟨h1, h2⟩, h3, h4⟩; exact ⟨⟨h1, h3⟩, by omega⟩
  · rintro ⟨⟨h1, h3⟩, h4⟩; exact ⟨⟨h1, by omega⟩, h3, by omega, by omega⟩

theorem okS_prefix {l : List Sp} {lo hi : Int} (k : Nat) (h : okS (l.take k) lo hi = false) : okS l lo hi = false := by
  cases hb : okS l lo hi with
  | false => rfl
  | true =>
    have e := List.take_append_drop k l
    simp only [okS, Bool.and_eq_true] at hb
    rw [← e, asc_append, List.all_append, Bool.and_eq_true] at hb
    have : okS (l.take k) lo hi = true := by simp only [okS, Bool.and_eq_true]; exact ⟨hb.1.1, hb.2.1⟩
    rw [this] at h; cases h

theorem ends_take (l : List Sp) (j : Nat) (h : j < l.length) : ends 0 (l.take (j + 1)) = (l.getD j sp0).2.1 + 1 := by
  rw [take_snoc_sp l j h, ends_append]; rfl

theorem check_all {l : List Sp} : checkS l 0 1114111 = validS l := by
  unfold checkS
  cases hv : validS l with
  | false => rfl
  | true =>
    rw [Bool.true_and, List.all_eq_true]
    intro s hs
    have := asc_mem (valid_asc hv) hs
    simp; omega

end Go.Proofs.YtiafhifbgdkgaaaDoor
