/- The contracts of keep.point, keep.Points; of table.Maps. sli -/
import Derived.Test.YtopaojjodkoidaaGreatDoorSSmTblJ
set_option linter.unusedSimpArgs false
set_option linter.unusedVariables false
namespace Go.Proofs.YtopaojjodkoidaaGreatDoor
open Go.RowKit
theorem Made.maps {T : Tb} (h : Made T) (c : Int) : (mapsT T c = [] ↔ staT T c ≠ 3) ∧ ∀ y ∈ mapsT T c, staT T y = 1 ∨ staT T y = 4 := by
 have hnone : ∀ a : Int, a ∉ poolL → val T.sta a = none := fun a ha => h.map.sp.none ha
 by_cases hu : uppB c = true
 ·have hc := uppB_iff.1 hu
  have hp : c ∉ poolL := by
   intro hm
   have : ∀ a ∈ poolL, 90 < a := by decide +kernel
   have := this c hm
   omega
  have hp2 : c + 32 ∉ poolL := by
   intro hm
   have : ∀ a ∈ poolL, 122 < a := by decide +kernel
   have := this _ hm
   omega
  have e1 : staT T c = 3 := by
   unfold staT fixT
   rw [hnone c hp]
   have h1 : latB c = false := by
    cases hb : latB c with
    | false => rfl
    | true => have := latB_iff.1 hb; omega
   have h2 : sylB c = false := by
    cases hb : sylB c with
    | false => rfl
    | true => have := sylB_iff.1 hb; omega
   simp [h1, h2, hu, show c ≠ 46 by omega]
  have e2 : staT T (c + 32) = 1 := by
   unfold staT fixT
   rw [hnone _ hp2]
   have h1 : latB (c + 32) = true := latB_iff.2 (.inl (by omega))
   simp [h1]
  unfold mapsT
  rw [if_pos hu, e1]
  refine ⟨by simp, fun y hy => ?_⟩
  rw [List.mem_singleton] at hy
  subst hy
  exact .inl e2
 ·unfold mapsT
  rw [if_neg hu]
  constructor
  ·constructor
   ·intro he h3
    unfold staT at h3
    cases hv : val T.sta c with
    | none =>
     rw [hv] at h3
     unfold fixT at h3
     simp only [Option.getD_none] at h3
     split at h3
     ·omega
     ·first | omega | (rw [if_neg hu] at h3; omega)
    | some v =>
     rw [hv] at h3
     simp only [Option.getD_some] at h3
     subst h3
     obtain ⟨s, hs, h1, h2, h4⟩ := val_mem hv
     obtain ⟨e5, _⟩ := h.map.sp.mem s hs
     have hb := h.map.back s hs h4
     have : s.1 = c := by omega
     rw [this] at hb
     have hm := findM_has hb
     rw [he] at hm
     have := (h.map.mem _ hm).2.2.facts.1
     simp at this
   ·intro h3
    apply Classical.byContradiction
    intro hne
    have hb : hasM T.map c = true := by
     cases hb : hasM T.map c with
     | true => rfl
     | false => exact absurd (findM_nil hb) hne
    have hm := findM_has hb
    have := val_of_in h.map.sp.asc (h.map.mem _ hm).1
    simp only at this
    apply h3
    unfold staT
    rw [this]; rfl
  ·intro y hy
   have hb : hasM T.map c = true := by
    cases hb : hasM T.map c with
    | true => rfl
    | false => rw [findM_nil hb] at hy; cases hy
   have hm := findM_has hb
   obtain ⟨_, f1, f2⟩ := (h.map.mem _ hm).2.2.facts.2.2 y hy
   left
   unfold staT
   rw [hnone y f2]; exact f1
end Go.Proofs.YtopaojjodkoidaaGreatDoor
