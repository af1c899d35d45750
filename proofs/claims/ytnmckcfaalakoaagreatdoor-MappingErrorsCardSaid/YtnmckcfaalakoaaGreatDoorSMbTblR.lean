/-
  Properties of a code point, the program's and the reference's: joining, Bidi, sequences.
-/
import Derived.Test.YtnmckcfaalakoaaGreatDoorSMbTblQ
set_option linter.unusedSimpArgs false
set_option linter.unusedVariables false
namespace Go.Proofs.YtnmckcfaalakoaaGreatDoor
open Go.RowKit
set_option linter.unusedVariables false

set_option maxHeartbeats 2000000 in
theorem rmapsOf_at (x : TV) (T : Tb) (c : Int) (xs : List Int) (w : World) (hx : TabV w x T) (hxs : Hid (mapsT T c = xs)) :
    Calls Tryz.prog 36 #[x.agg, .int .i64 c] w (GivesL xs w) := by
  have HE := Lib.hid (Env.new hx)
  have k := HE.out.at8
  clear hx
  simp only [TV.agg]
  by_cases hc : 65 ≤ c ∧ c ≤ 90
  · obtain ⟨h1, h2⟩ := hc
    have HX : Hid (xs = [c + 32]) := by unfold Hid; rw [← hxs.out, mapsT, if_pos (uppB_iff.2 ⟨h1, h2⟩)]
    have e2 : IntKind.i64.wrap (c + 32) = c + 32 := IntWalk.i64_in _ (by omega)
    go_enter Tryz.func36, Tryz.ntmps36
    go_wp2
    go_ret
    rw [HX.out]
    refine ⟨_, 1, 1, rfl, rfl, by omega, ?_, HE.out.bel.alloc (by simp) _⟩
    have := lit_ints (w.alloc (.cells (tabCells x) 26)) #[.int .i64 (c + 32)] [c + 32] 3 rfl
    simpa [tabCells] using this
  · have HX : Hid (findM T.map c = xs) := by unfold Hid; rw [← hxs.out, mapsT, if_neg (fun h => hc (uppB_iff.1 h))]
    have key : (Calls Tryz.prog 49 #[x.a8, .int .i64 c] (w.alloc (.cells (tabCells x) 26)) (GivesL xs (w.alloc (.cells (tabCells x) 26)))) := rfind_at x.a8 T.map c xs _ HE.out.tab.map HX
    have KEY := Lib.hid key
    have hcc : c < 65 ∨ 90 < c := by omega
    clear hc key
    rcases hcc with hcc | hcc
    rotate_left
    have h65 : 65 ≤ c := by omega
    all_goals
      go_enter Tryz.func36, Tryz.ntmps36
      go_wp2_with fail
      refine KEY.out.mono ?_
      rintro e w1 ⟨p2, n2, c2, rfl, hl2, hn2, hin2, hb⟩
      have HB := Lib.hid (HE.out.step hb)
      have HI2 := Lib.hid hin2
      have HL2 := Lib.hid hl2
      have HN2 := Lib.hid hn2
      clear hb k hin2 hl2 hn2
      go_wp2
      go_ret
      exact ⟨p2, n2, c2, rfl, HL2.out, HN2.out, HI2.out, HB.out.bel⟩

end Go.Proofs.YtnmckcfaalakoaaGreatDoor
