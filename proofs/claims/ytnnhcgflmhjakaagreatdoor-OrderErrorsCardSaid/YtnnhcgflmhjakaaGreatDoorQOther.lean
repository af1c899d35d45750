/-
  keep.Other: its contract, whatever is picked.
-/
import Derived.Test.YtnnhcgflmhjakaaGreatDoorQOthB
import Derived.Test.YtnnhcgflmhjakaaGreatDoorQOthC
import Derived.Test.YtnnhcgflmhjakaaGreatDoorQOthD
import Derived.Test.YtnnhcgflmhjakaaGreatDoorQOthE
import Derived.Test.YtnnhcgflmhjakaaGreatDoorQOthF
import Derived.Test.YtnnhcgflmhjakaaGreatDoorQOthG
set_option linter.unusedSimpArgs false
set_option linter.unusedVariables false
namespace Go.Proofs.YtnnhcgflmhjakaaGreatDoor
open Go.RowKit

theorem other_any (x : TV) (T : Tb) (n : Nat) (how at' v : Int) (w : World) (hx : TabV w x T) (hf : Few n T) (hn : n ≤ 1000) :
    Calls Tryz.prog 10 #[x.agg, .int .i64 how, .int .i64 at', .int .i64 v] w (OtherPost x n w) := by
  obtain ⟨q, HQ, q0, q1⟩ := pick_nm how 12 (by omega)
  have hq : q = 0 ∨ q = 1 ∨ q = 2 ∨ q = 3 ∨ q = 4 ∨ q = 5 ∨ q = 6 ∨ q = 7 ∨ q = 8 ∨ q = 9 ∨ q = 10 ∨ q = 11 := by omega
  rcases hq with rfl | rfl | rfl | rfl | rfl | rfl | rfl | rfl | rfl | rfl | rfl | rfl
  · exact other_0 x T n how at' v w hx hf hn HQ
  · exact other_1 x T n how at' v w hx hf hn HQ
  · exact other_2 x T n how at' v w hx hf hn HQ
  · obtain ⟨z, HZ, z0, z1⟩ := pick_nm at' 2 (by omega)
    have hz : z = 0 ∨ z = 1 := by omega
    rcases hz with rfl | rfl
    · exact other_3a x T n how at' v w hx hf hn HQ HZ
    · exact other_3b x T n how at' v w hx hf hn HQ HZ
  · exact other_4 x T n how at' v w hx hf hn HQ
  · exact other_5 x T n how at' v w hx hf hn HQ
  · exact other_6 x T n how at' v w hx hf hn HQ
  · exact other_7 x T n how at' v w hx hf hn HQ
  · exact other_8 x T n how at' v w hx hf hn HQ
  · exact other_9 x T n how at' v w hx hf hn HQ
  · exact other_10 x T n how at' v w hx hf hn HQ
  · obtain ⟨z, HZ, z0, z1⟩ := pick_nm v 2 (by omega)
    have hz : z = 0 ∨ z = 1 := by omega
    rcases hz with rfl | rfl
    · exact other_11a x T n how at' v w hx hf hn HQ HZ
    · exact other_11b x T n how at' v w hx hf hn HQ HZ

end Go.Proofs.YtnnhcgflmhjakaaGreatDoor
