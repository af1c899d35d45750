/-
  The walk of HangulCompose.
-/
import Derived.Test.YtnhldkneeegohaaHanLaw
namespace Go.Proofs.Ytnhldkneeegohaa.hangulComposeW
open Go.RowKit

set_option maxRecDepth 100000 in
set_option maxHeartbeats 4000000 in
theorem walk (v u : Int) (_ : (Lit.int .i64 v).wf = true) (_ : (Lit.int .i64 u).wf = true) (w : World) :
    Calls Try.prog 4 #[.int .i64 v, .int .i64 u] w fun e w' => e = .returned (.bool true) ∧ Below w.heap.size w w' := by
  obtain ⟨q, HQ, hq0, hq1⟩ := pick_name u 2 (by omega)
  obtain ⟨x, s, hx⟩ : ∃ x s, compS v u = (x, s) := ⟨_, _, rfl⟩
  have HX := Lib.hid hx
  clear hx
  have hq : q = 0 ∨ q = 1 := by omega
  clear hq0 hq1
  rcases hq with rfl | rfl
  all_goals
    go_enter Try.func4, Try.ntmps4
    go_wp2_with fail
    refine (near_any v _).mono ?_
    rintro e w' ⟨a, rfl, rfl⟩
    go_wp2_with fail
    refine (near_any u _).mono ?_
    rintro e w' ⟨b, rfl, rfl⟩
    go_wp2_with fail
    refine (pickP_at u 2 _ _ (by omega) (by omega) HQ).mono ?_
    rintro e w' ⟨rfl, rfl⟩
    go_wp2_with fail
  · obtain ⟨z, HZ, z0, z1⟩ := pick_name (wrap64 (u.tdiv 2)) 30 (by omega)
    obtain ⟨b2, hb2⟩ : ∃ b2, 4518 + z = b2 := ⟨_, rfl⟩
    obtain ⟨y, t, hy⟩ : ∃ y t, compS a b2 = (y, t) := ⟨_, _, rfl⟩
    have HY := Lib.hid hy
    clear hy
    refine (pickP_at _ 30 z _ (by omega) (by omega) HZ).mono ?_
    rintro e w' ⟨rfl, rfl⟩
    go_wp2_with fail
    refine (hcomp_at a b2 y t _ HY).mono ?_
    rintro e w' ⟨rfl, rfl⟩
    go_wp2_with fail
    refine (rhcomp_at a b2 y t _ HY).mono ?_
    rintro e w' ⟨rfl, rfl⟩
    go_wp2_with fail
    refine (hcomp_at v u x s _ HX).mono ?_
    rintro e w' ⟨rfl, rfl⟩
    go_wp2_with fail
    refine (rhcomp_at v u x s _ HX).mono ?_
    rintro e w' ⟨rfl, rfl⟩
    go_wp2_with fail
    refine (awake_any _).mono ?_
    rintro e w1 ⟨rfl, hb1⟩
    have HB1 := Lib.hid hb1
    clear hb1
    go_wp2
    go_ret
    exact ⟨rfl, HB1.out⟩
  · obtain ⟨y, t, hy⟩ : ∃ y t, compS a b = (y, t) := ⟨_, _, rfl⟩
    have HY := Lib.hid hy
    clear hy
    refine (hcomp_at a b y t _ HY).mono ?_
    rintro e w' ⟨rfl, rfl⟩
    go_wp2_with fail
    refine (rhcomp_at a b y t _ HY).mono ?_
    rintro e w' ⟨rfl, rfl⟩
    go_wp2_with fail
    refine (hcomp_at v u x s _ HX).mono ?_
    rintro e w' ⟨rfl, rfl⟩
    go_wp2_with fail
    refine (rhcomp_at v u x s _ HX).mono ?_
    rintro e w' ⟨rfl, rfl⟩
    go_wp2_with fail
    refine (awake_any _).mono ?_
    rintro e w1 ⟨rfl, hb1⟩
    have HB1 := Lib.hid hb1
    clear hb1
    go_wp2
    go_ret
    exact ⟨rfl, HB1.out⟩

end Go.Proofs.Ytnhldkneeegohaa.hangulComposeW
