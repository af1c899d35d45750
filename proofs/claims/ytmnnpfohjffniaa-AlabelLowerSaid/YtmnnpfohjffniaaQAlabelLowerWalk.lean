/-
  The walk of AlabelLower.
-/
import Derived.Test.YtmnnpfohjffniaaPkZZF
set_option linter.unusedSimpArgs false
set_option linter.unusedVariables false
namespace Go.Proofs.Ytmnnpfohjffniaa.alabelLowerW
open Go.RowKit

set_option maxRecDepth 100000 in
set_option maxHeartbeats 2000000 in
theorem walk (a0 : ByteArray) (w0 : a0.size ≤ 140737488351232) (w : World) :
    Calls Try.prog 7 #[.string a0] w fun e w' => e = .returned (.bool true) ∧ Below w.heap.size w w' := by
  obtain ⟨t, ht⟩ : ∃ t, lowB a0 = t := ⟨_, rfl⟩
  have hts : t.size = a0.size := by rw [← ht]; exact lowB_size a0
  have htt : lowB t = t := by rw [← ht]; exact lowB_twice a0
  obtain ⟨B, hB⟩ : ∃ B, isX (nums a0) = B := ⟨_, rfl⟩
  have hB2 : isX (nums t) = B := by rw [← ht, isX_lowB, hB]
  have HT := Lib.hid ht
  have HTT := Lib.hid htt
  have HB := Lib.hid hB
  have HB2 := Lib.hid hB2
  have htb : t.size ≤ 140737488351232 := by omega
  have hq : (t.toList == t.toList) = true := by simp
  have hqb : (B == B) = true := by simp
  have hszz : ((t.size : Int) == (a0.size : Int)) = true := by simp [hts]
  clear ht htt hB hB2 hts
  go_enter Try.func7, Try.ntmps7
  go_wp2_with fail
  refine (lower_at a0 t _ (by omega) HT).mono ?_
  rintro e w1 ⟨rfl, hb1⟩
  have HB1 := Lib.hid hb1
  clear hb1
  go_wp2_with fail
  refine (awake11_any _).mono ?_
  rintro e w2 ⟨rfl, hb2⟩
  replace HB1 := Lib.hid (HB1.out.trans (hb2.mono HB1.out.size))
  clear hb2
  go_wp2_with fail
  refine (lower_at t t _ (by omega) HTT).mono ?_
  rintro e w3 ⟨rfl, hb3⟩
  replace HB1 := Lib.hid (HB1.out.trans (hb3.mono HB1.out.size))
  clear hb3
  go_wp2_with fail
  refine (is_at t B _ (by omega) HB2).mono ?_
  rintro e w4 ⟨rfl, hb4⟩
  replace HB1 := Lib.hid (HB1.out.trans (hb4.mono HB1.out.size))
  clear hb4
  go_wp2_with fail
  refine (is_at a0 B _ (by omega) HB).mono ?_
  rintro e w5 ⟨rfl, hb5⟩
  replace HB1 := Lib.hid (HB1.out.trans (hb5.mono HB1.out.size))
  clear hb5
  go_wp2_with fail
  refine (rlower_at a0 t _ (by omega) HT).mono ?_
  rintro e w6 ⟨rfl, hb6⟩
  replace HB1 := Lib.hid (HB1.out.trans (hb6.mono HB1.out.size))
  clear hb6
  go_wp2
  go_ret
  exact ⟨rfl, HB1.out⟩

end Go.Proofs.Ytmnnpfohjffniaa.alabelLowerW
