/-
  The references of table: value, find, Excluded, Class, Ignorable, Status.
-/
import Derived.Test.YtcamkjafpnojkaaDoorSxTabRC
import Derived.Test.YtcamkjafpnojkaaDoorSxPkE
set_option linter.unusedSimpArgs false
set_option linter.unusedVariables false
namespace Go.Proofs.YtcamkjafpnojkaaDoor
open Go.RowKit
set_option linter.unusedVariables false

theorem val_res {l : List Sp} {c : Int} (h : spOk l = true) (hc : resB c = true) : val l c = none := by
  cases hv : val l c with
  | none => rfl
  | some v =>
    obtain ⟨s, hs, h1, h2, _⟩ := val_mem hv
    simp only [spOk, Bool.and_eq_true] at h
    have := List.all_eq_true.1 h.2 s hs
    have h3 : resF s.1 s.2.1 = true := by
      rw [resF_iff]; rw [resB_iff] at hc; omega
    rw [h3] at this; cases this

end Go.Proofs.YtcamkjafpnojkaaDoor
