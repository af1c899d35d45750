/-
  The walk of PunyAdapt.
-/
import Derived.Test.YtaakdcelbnghoaaQPunLaw
import Derived.Test.YtaakdcelbnghoaaPkG
set_option linter.unusedSimpArgs false
set_option linter.unusedVariables false
namespace Go.Proofs.Ytaakdcelbnghoaa.punyAdaptW
open Go.RowKit

theorem pick_at (v n q : Int) (w : World) (h0 : 1 ≤ n) (h1 : n ≤ 1073741824) (hq : Hid (pickS v n = q)) :
    Calls Try.prog 15 #[.int .i64 v, .int .i64 n] w fun e w' => e = .returned (.int .i64 q) ∧ w = w' := hq.out ▸ pick_any v n w h0 h1
theorem adaptS_pos (d p : Int) (f : Bool) : 0 ≤ adaptS d p f := by unfold adaptS; split <;> omega

set_option maxRecDepth 100000 in
set_option maxHeartbeats 2000000 in
theorem walk (delta points : Int) (first : Bool) (shift : Int) (_ : (Lit.int .i64 delta).wf = true) (_ : (Lit.int .i64 points).wf = true) (_ : (Lit.int .i64 shift).wf = true) (w : World) :
    Calls Try.prog 5 #[.int .i64 delta, .int .i64 points, .bool first, .int .i64 shift] w fun e w' => e = .returned (.bool true) ∧ Below w.heap.size w w' := by
  obtain ⟨q, HQ, hq0, hq1⟩ : ∃ q, Hid (pickS shift 64 = q) ∧ 0 ≤ q ∧ q < 64 := ⟨_, rfl, pickS_bd _ _ (by omega)⟩
  obtain ⟨r, HR, hr0, hr1⟩ : ∃ r, Hid (pickS points 300 = r) ∧ 0 ≤ r ∧ r < 300 := ⟨_, rfl, pickS_bd _ _ (by omega)⟩
  obtain ⟨B, hB⟩ : ∃ B, adaptS delta points first = B := ⟨_, rfl⟩
  have HB := Lib.hid hB
  clear hB
  go_enter Try.func5, Try.ntmps5
  go_wp2_with fail
  refine (pick_at _ _ q _ (by omega) (by omega) HQ).mono ?_
  rintro e w' ⟨rfl, rfl⟩
  go_wp2_with fail
  refine (pick_at _ _ r _ (by omega) (by omega) HR).mono ?_
  rintro e w' ⟨rfl, rfl⟩
  go_wp2_with fail
  generalize hS : (delta / _ : Int) = S
  obtain ⟨C, hC⟩ : ∃ C, adaptS S (1 + r) first = C := ⟨_, rfl⟩
  have hC0 : 0 ≤ C := by rw [← hC]; exact adaptS_pos _ _ _
  have HC := Lib.hid hC
  clear hC hS
  go_wp2_with fail
  refine (adapt_at _ _ C _ _ HC).mono ?_
  rintro e w' ⟨rfl, rfl⟩
  go_wp2_with fail
  refine (awake10_any _).mono ?_
  rintro e w5 ⟨rfl, hb5⟩
  have HB5 := Lib.hid hb5
  clear hb5
  go_wp2_with fail
  refine (adapt_at delta points B first _ HB).mono ?_
  rintro e w' ⟨rfl, rfl⟩
  go_wp2_with fail
  refine (radapt_at delta points B first _ HB).mono ?_
  rintro e w' ⟨rfl, rfl⟩
  go_wp2_with fail
  refine (radapt_at S (1 + r) C first _ HC).mono ?_
  rintro e w' ⟨rfl, rfl⟩
  go_wp2
  go_ret
  exact ⟨rfl, HB5.out⟩

end Go.Proofs.Ytaakdcelbnghoaa.punyAdaptW
