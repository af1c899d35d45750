/-
  The walk of HangulBack.
-/
import Derived.Test.YtnhldkneeegohaaHanLaw
import Derived.Deep.QuietTactic
import Derived.BigQuiet
namespace Go.Proofs.Ytnhldkneeegohaa.hangulBackW
open Go.RowKit

/-- A region of two loads and a composition. -/
theorem hcomp_quiet (a b x : Int) (o : Bool) (w : World) (h : Hid (compS a b = (x, o))) :
    Calls Try.prog 18 #[.int .i64 a, .int .i64 b] w fun e w' => e = .returned (.tuple #[.int .i64 x, .bool o]) ∧ w' = w :=
  (hcomp_at a b x o w h).mono (fun _ _ h => ⟨h.1, h.2.symm⟩)

set_option maxRecDepth 100000 in
set_option maxHeartbeats 4000000 in
theorem walk (v : Int) (_ : (Lit.int .i64 v).wf = true) (w : World) :
    Calls Try.prog 5 #[.int .i64 v] w fun e w' => e = .returned (.bool true) ∧ Below w.heap.size w w' := by
  obtain ⟨q, HQ, hq0, hq1⟩ := pick_name v 11172 (by omega)
  obtain ⟨c, hc⟩ : ∃ c, 44032 + q = c := ⟨_, rfl⟩
  obtain ⟨i, j, k, b, hp⟩ : ∃ i j k b, partsS c = (i, j, k, b) := ⟨_, _, _, _, rfl⟩
  have hd := decS_of hp
  rcases partsS_cases hp with ⟨rfl, rfl, rfl, rfl, hcc⟩ | ⟨rfl, hi0, hi1, hj0, hj1, hk0, hk1, hcc⟩
  · omega
  · obtain ⟨a1, ha1⟩ : ∃ a, 4352 + i = a := ⟨_, rfl⟩
    obtain ⟨b1, hb1⟩ : ∃ a, 4449 + j = a := ⟨_, rfl⟩
    obtain ⟨t1, ht1⟩ : ∃ a, 4519 + k = a := ⟨_, rfl⟩
    obtain ⟨x, hx⟩ : ∃ x, c - k = x := ⟨_, rfl⟩
    have H1 : Hid (compS a1 b1 = (x, true)) := by
      unfold Hid
      rw [compS_12 (kindS_1.2 (by omega)) (kindS_2.2 (by omega))]
      simp only [Prod.mk.injEq, and_true]; omega
    by_cases hk : k = 0
    · have e0 : x = c := by omega
      subst e0
      have hD : decS x = [a1, b1] := by rw [hd, ← ha1, ← hb1]; simp [hk]
      have HD := Lib.hid hD
      clear hd hD hcc hp hx ha1 hb1 ht1
      go_enter Try.func5, Try.ntmps5
      go_wp2_with fail
      refine (pickP_at v 11172 q _ (by omega) (by omega) HQ).mono ?_
      rintro e w' ⟨rfl, rfl⟩
      go_wp2_with fail
      refine (hdec_at x [a1, b1] _ HD).mono ?_
      rintro e w1 ⟨p1, c1, rfl, hi1, hb1⟩
      obtain ⟨g, off, rfl, hc0⟩ := hi1 0 (by simp)
      obtain ⟨g2, off2, e2, hc1⟩ := hi1 1 (by simp)
      cases e2
      have hz0 : w1.cell? ⟨g, off, none⟩ = some (.int .i64 a1) := hc0
      have hz1 : w1.cell? ⟨g, off + 1, none⟩ = some (.int .i64 b1) := hc1
      have HB1 := Lib.hid hb1
      clear hb1 hi1 hc0 hc1
      go_wp2
      go_quiet ((go_at_call 18; exact Calls.quiet_of_same (hcomp_quiet a1 b1 x true _ H1)))
      go_wp2_with fail
      refine (awake_any _).mono ?_
      rintro e w3 ⟨rfl, hb3⟩
      have HB3 := Lib.hid ((below_drewN HB1.out _).trans (hb3.mono (below_drewN HB1.out _).size))
      clear hb3
      go_wp2
      go_ret
      exact ⟨rfl, HB3.out⟩
    · have hD : decS c = [a1, b1, t1] := by rw [hd, ← ha1, ← hb1, ← ht1]; simp [hk]
      have H2 : Hid (compS x t1 = (c, true)) := by
        unfold Hid
        rw [compS_43 (kindS_4.2 (by omega)) (kindS_3.2 (by omega))]
        simp only [Prod.mk.injEq, and_true]; omega
      have HD := Lib.hid hD
      clear hd hD hcc hp hx ha1 hb1 ht1
      go_enter Try.func5, Try.ntmps5
      go_wp2_with fail
      refine (pickP_at v 11172 q _ (by omega) (by omega) HQ).mono ?_
      rintro e w' ⟨rfl, rfl⟩
      go_wp2_with fail
      refine (hdec_at c [a1, b1, t1] _ HD).mono ?_
      rintro e w1 ⟨p1, c1, rfl, hi1, hb1⟩
      obtain ⟨g, off, rfl, hc0⟩ := hi1 0 (by simp)
      obtain ⟨g2, off2, e2, hc1⟩ := hi1 1 (by simp)
      cases e2
      obtain ⟨g3, off3, e3, hc2⟩ := hi1 2 (by simp)
      cases e3
      have hz0 : w1.cell? ⟨g, off, none⟩ = some (.int .i64 a1) := hc0
      have hz1 : w1.cell? ⟨g, off + 1, none⟩ = some (.int .i64 b1) := hc1
      have hz2 : w1.cell? ⟨g, off + 2, none⟩ = some (.int .i64 t1) := hc2
      have HB1 := Lib.hid hb1
      clear hb1 hi1 hc0 hc1 hc2
      go_wp2
      go_quiet ((go_at_call 18; exact Calls.quiet_of_same (hcomp_quiet a1 b1 x true _ H1)))
      go_wp2_with fail
      refine (hcomp_at x t1 c true _ H2).mono ?_
      rintro e w2 ⟨rfl, rfl⟩
      go_wp2_with fail
      refine (awake_any _).mono ?_
      rintro e w3 ⟨rfl, hb3⟩
      have HB3 := Lib.hid ((below_drewN HB1.out _).trans (hb3.mono (below_drewN HB1.out _).size))
      clear hb3
      go_wp2
      go_ret
      exact ⟨rfl, HB3.out⟩

end Go.Proofs.Ytnhldkneeegohaa.hangulBackW
