/-
  The contract of keep.Pick.
-/
import Derived.Test.YtnhldkneeegohaaOwn
namespace Go.Proofs.Ytnhldkneeegohaa
open Go.RowKit

/-- 'uint(v) % uint(n)'. -/
def pickS (v n : Int) : Int := (v % 18446744073709551616) % n

theorem pickS_bd (v n : Int) (h : 1 ≤ n) : 0 ≤ pickS v n ∧ pickS v n < n := by
  unfold pickS; exact ⟨Int.emod_nonneg _ (by omega), Int.emod_lt_of_pos _ (by omega)⟩

theorem pick_eq (v n : Int) (h0 : 1 ≤ n) (h1 : n ≤ 1125899906842624) : wrap64 ((IntKind.u64.wrap v).tmod n) = pickS v n := by
  have hb := pickS_bd v n h0
  have e : (IntKind.u64.wrap v).tmod n = pickS v n := by
    rw [IntKind.wrap_u64, Int.tmod_eq_emod_of_nonneg (Int.emod_nonneg _ (by omega))]
    rfl
  rw [e]
  exact IntWalk.wrap64_in _ ⟨by omega, by omega⟩

theorem ret_i64 {a b : Int} (h : a = b) : Ending.returned (.int .i64 a) = .returned (.int .i64 b) := by rw [h]

set_option maxHeartbeats 400000 in
theorem pickL_any (v n : Int) (w : World) (h0 : 1 ≤ n) (h1 : n ≤ 1125899906842624) :
    Calls Try.prog 17 #[.int .i64 v, .int .i64 n] w fun e w' => e = .returned (.int .i64 (pickS v n)) ∧ w = w' := by
  go_enter Try.func17, Try.ntmps17
  go_wp2
  go_ret
  exact ⟨ret_i64 (pick_eq v n h0 h1), rfl⟩

theorem pick_any (v n : Int) (w : World) (h0 : 1 ≤ n) (h1 : n ≤ 1073741824) :
    Calls Try.prog 17 #[.int .i64 v, .int .i64 n] w fun e w' => e = .returned (.int .i64 (pickS v n)) ∧ w = w' := pickL_any v n w h0 (by omega)

end Go.Proofs.Ytnhldkneeegohaa
