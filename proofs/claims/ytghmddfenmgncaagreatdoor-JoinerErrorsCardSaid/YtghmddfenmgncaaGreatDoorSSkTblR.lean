/-
  Properties of a code point, the program's and the reference's: joining, Bidi, sequences.
-/
import Derived.Test.YtghmddfenmgncaaGreatDoorSSkTblQ
set_option linter.unusedSimpArgs false
set_option linter.unusedVariables false
namespace Go.Proofs.YtghmddfenmgncaaGreatDoor
open Go.RowKit
set_option linter.unusedVariables false

set_option maxHeartbeats 2000000 in
theorem joining_at (x : TV) (T : Tb) (c : Int) (z : Int) (w : World) (hx : TabV w x T) (ha : ascB 0 T.joi = true) (hz : Hid (joiT T c = z)) :
    Calls Tryz.prog 43 #[x.agg, .int .i64 c] w (Gives (.int .i64 z) w) := by
  have HE := Lib.hid (Env.new hx)
  have k := HE.out.at2
  have HA := Lib.hid ha
  clear ha
  clear hx
  simp only [TV.agg]
  go_enter Tryz.func43, Tryz.ntmps43
  go_wp2_with fail
  refine (valueOr_at x.a2 T.joi c 0 z _ HE.out.tab.joi HA.out hz).mono ?_
  rintro e w1 ⟨rfl, hb⟩
  have HB := Lib.hid (HE.out.step hb)
  clear hb k
  go_wp2
  go_ret
  exact ⟨rfl, HB.out.bel⟩

set_option maxHeartbeats 2000000 in
theorem rjoining_at (x : TV) (T : Tb) (c : Int) (z : Int) (w : World) (hx : TabV w x T) (hz : Hid (joiT T c = z)) :
    Calls Tryz.prog 39 #[x.agg, .int .i64 c] w (Gives (.int .i64 z) w) := by
  have HE := Lib.hid (Env.new hx)
  have k := HE.out.at2
  clear hx
  simp only [TV.agg]
  go_enter Tryz.func39, Tryz.ntmps39
  go_wp2_with fail
  refine (rvalue_sp x.a2 T.joi c z _ HE.out.tab.joi hz).mono ?_
  rintro e w1 ⟨rfl, hb⟩
  have HB := Lib.hid (HE.out.step hb)
  clear hb k
  go_wp2
  go_ret
  exact ⟨rfl, HB.out.bel⟩

end Go.Proofs.YtghmddfenmgncaaGreatDoor
