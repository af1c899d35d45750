/-
  The walk of HangulParts.
-/
import Derived.Test.YtnhldkneeegohaaHanLaw
namespace Go.Proofs.Ytnhldkneeegohaa.hangulPartsW
open Go.RowKit

set_option maxRecDepth 100000 in
set_option maxHeartbeats 4000000 in
theorem walk (i j k : Int) (_ : (Lit.int .i64 i).wf = true) (_ : (Lit.int .i64 j).wf = true) (_ : (Lit.int .i64 k).wf = true) (w : World) :
    Calls Try.prog 6 #[.int .i64 i, .int .i64 j, .int .i64 k] w fun e w' => e = .returned (.bool true) ∧ Below w.heap.size w w' := by
  obtain ⟨a, HA, ha0, ha1⟩ := pick_name i 19 (by omega)
  obtain ⟨b, HB, hb0, hb1⟩ := pick_name j 21 (by omega)
  obtain ⟨c, HC, hc0, hc1⟩ := pick_name k 28 (by omega)
  have HP := Lib.hid (partsS_in ha0 ha1 hb0 hb1 hc0 hc1)
  go_enter Try.func6, Try.ntmps6
  go_wp2_with fail
  refine (pickP_at i 19 a _ (by omega) (by omega) HA).mono ?_
  rintro e w' ⟨rfl, rfl⟩
  go_wp2_with fail
  refine (pickP_at j 21 b _ (by omega) (by omega) HB).mono ?_
  rintro e w' ⟨rfl, rfl⟩
  go_wp2_with fail
  refine (pickP_at k 28 c _ (by omega) (by omega) HC).mono ?_
  rintro e w' ⟨rfl, rfl⟩
  go_wp2_with fail
  refine (parts_at _ a b c true _ HP).mono ?_
  rintro e w' ⟨rfl, rfl⟩
  go_wp2_with fail
  refine (awake_any _).mono ?_
  rintro e w1 ⟨rfl, hb1⟩
  have HB1 := Lib.hid hb1
  clear hb1
  go_wp2
  go_ret
  exact ⟨rfl, HB1.out⟩

end Go.Proofs.Ytnhldkneeegohaa.hangulPartsW
