/-
  Properties of a code point, the reference's: category, Bidi class, script.
-/
import Derived.Test.YtiafhifbgdkgaaaGreatDoorQTblR
set_option linter.unusedSimpArgs false
set_option linter.unusedVariables false
namespace Go.Proofs.YtiafhifbgdkgaaaGreatDoor
open Go.RowKit
set_option linter.unusedVariables false

theorem low_syl {c : Int} (h : c ≤ 127) : sylB c = false := by
  cases hb : sylB c with
  | false => rfl
  | true => have := sylB_iff.1 hb; omega
theorem low_jam {c : Int} (h : c ≤ 127) : jamB c = false := by
  cases hb : jamB c with
  | false => rfl
  | true => have := jamB_iff.1 hb; omega
theorem res_low {c : Int} (h0 : 0 ≤ c) (h1 : c ≤ 127) : resB c = true := resB_iff.2 (.inl ⟨h1, h0⟩)
theorem res_syl {c : Int} (h : sylB c = true) : resB c = true := by have := sylB_iff.1 h; exact resB_iff.2 (by omega)
theorem res_jam {c : Int} (h : jamB c = true) : resB c = true := by have := jamB_iff.1 h; exact resB_iff.2 (by omega)

set_option maxHeartbeats 8000000 in
theorem rbid_at (x : TV) (T : Tb) (c z : Int) (w : World) (hx : TabV w x T) (hs : spOk T.bid = true) (hz : Hid (bidT T c = z)) :
    Calls Tryz.prog 34 #[x.agg, .int .i64 c] w (Gives (.int .i64 z) w) := by
  have HE := Lib.hid (Env.new hx)
  have k := HE.out.at3
  have hfix : resB c = true → z = fixB c := fun h => by rw [← hz.out, bidT, val_res hs h]; rfl
  have HFX := Lib.hid hfix
  clear hx hfix
  simp only [TV.agg]
  have hcases : (c < 0 ∨ 127 < c) ∨ ((97 ≤ c ∧ c ≤ 122) ∨ (65 ≤ c ∧ c ≤ 90) ∨ (48 ≤ c ∧ c ≤ 57) ∨ (0 ≤ c ∧ c ≤ 31) ∨ (127 ≤ c ∧ c ≤ 127) ∨ (32 ≤ c ∧ c ≤ 32) ∨ (33 ≤ c ∧ c ≤ 44) ∨ (45 ≤ c ∧ c ≤ 45) ∨ (46 ≤ c ∧ c ≤ 46) ∨ (47 ≤ c ∧ c ≤ 47) ∨ (58 ≤ c ∧ c ≤ 64) ∨ (91 ≤ c ∧ c ≤ 96) ∨ (123 ≤ c ∧ c ≤ 126)) := by omega
  rcases hcases with hcc | hcc
  · have HV : Hid ((val T.bid c).getD 0 = z) := by
      unfold Hid
      rw [← hz.out, bidT]
      have : fixB c = 0 := by
        unfold fixB; rw [if_neg (by simp [lowB, uppB]; omega), if_neg (by simp [digB]; omega), if_neg (by omega), if_neg (by omega), if_neg (by omega), if_neg (by omega)]
      rw [this]
    rcases hcc with hcc | hcc
    · clear k
      have k := HE.out.at3
      have e0 : decide (97 ≤ c) = false := by simp; omega
      have e1 : decide (65 ≤ c) = false := by simp; omega
      have e2 : decide (48 ≤ c) = false := by simp; omega
      have e3 : decide (0 ≤ c) = false := by simp; omega
      have e4 : c ≤ 122 := by omega
      have e5 : c ≤ 90 := by omega
      have e6 : c ≤ 57 := by omega
      have e7 : c ≤ 32 := by omega
      have e8 : c < 127 := by omega
      have e9 : decide (32 < c) = false := by simp; omega
      have e10 : (c == 45) = false := by simp; omega
      have e11 : (c == 46) = false := by simp; omega
      have e12 : (c == 127) = false := by simp; omega
      clear hcc
      go_enter Tryz.func34, Tryz.ntmps34
      go_wp2_with fail
      refine (rvalue_sp x.a3 T.bid c z _ HE.out.tab.bid HV.out).mono ?_
      rintro e w7 ⟨rfl, hb⟩
      have HB := Lib.hid (HE.out.step hb)
      clear hb
      go_wp2
      go_ret
      exact ⟨rfl, HB.out.bel⟩
    · clear k
      have k := HE.out.at3
      have e0 : 97 ≤ c := by omega
      have e1 : 65 ≤ c := by omega
      have e2 : 48 ≤ c := by omega
      have e3 : 0 ≤ c := by omega
      have e4 : decide (c ≤ 122) = false := by simp; omega
      have e5 : decide (c ≤ 90) = false := by simp; omega
      have e6 : decide (c ≤ 57) = false := by simp; omega
      have e7 : decide (c ≤ 32) = false := by simp; omega
      have e8 : decide (c < 127) = false := by simp; omega
      have e9 : 32 < c := by omega
      have e10 : (c == 45) = false := by simp; omega
      have e11 : (c == 46) = false := by simp; omega
      have e12 : (c == 127) = false := by simp; omega
      clear hcc
      go_enter Tryz.func34, Tryz.ntmps34
      go_wp2_with fail
      refine (rvalue_sp x.a3 T.bid c z _ HE.out.tab.bid HV.out).mono ?_
      rintro e w7 ⟨rfl, hb⟩
      have HB := Lib.hid (HE.out.step hb)
      clear hb
      go_wp2
      go_ret
      exact ⟨rfl, HB.out.bel⟩
  · have HRS := Lib.hid (HFX.out (res_low (by omega) (by omega)))
    rcases hcc with hcc | hcc | hcc | hcc | hcc | hcc | hcc | hcc | hcc | hcc | hcc | hcc | hcc
    · have HZ : Hid (z = 0) := by
        unfold Hid
        rw [HRS.out]
        unfold fixB; rw [if_pos (by simp [lowB, uppB]; omega)]
      have e0 : 97 ≤ c := by omega
      have e1 : 65 ≤ c := by omega
      have e2 : 48 ≤ c := by omega
      have e3 : 0 ≤ c := by omega
      have e4 : c ≤ 122 := by omega
      have e5 : decide (c ≤ 90) = false := by simp; omega
      have e6 : decide (c ≤ 57) = false := by simp; omega
      have e7 : decide (c ≤ 32) = false := by simp; omega
      have e8 : c < 127 := by omega
      have e9 : 32 < c := by omega
      have e10 : (c == 45) = false := by simp; omega
      have e11 : (c == 46) = false := by simp; omega
      have e12 : (c == 127) = false := by simp; omega
      clear hcc
      go_enter Tryz.func34, Tryz.ntmps34
      go_wp2
      go_ret
      rw [HZ.out]
      exact ⟨rfl, HE.out.bel⟩
    · have HZ : Hid (z = 0) := by
        unfold Hid
        rw [HRS.out]
        unfold fixB; rw [if_pos (by simp [lowB, uppB]; omega)]
      have e0 : decide (97 ≤ c) = false := by simp; omega
      have e1 : 65 ≤ c := by omega
      have e2 : 48 ≤ c := by omega
      have e3 : 0 ≤ c := by omega
      have e4 : c ≤ 122 := by omega
      have e5 : c ≤ 90 := by omega
      have e6 : decide (c ≤ 57) = false := by simp; omega
      have e7 : decide (c ≤ 32) = false := by simp; omega
      have e8 : c < 127 := by omega
      have e9 : 32 < c := by omega
      have e10 : (c == 45) = false := by simp; omega
      have e11 : (c == 46) = false := by simp; omega
      have e12 : (c == 127) = false := by simp; omega
      clear hcc
      go_enter Tryz.func34, Tryz.ntmps34
      go_wp2
      go_ret
      rw [HZ.out]
      exact ⟨rfl, HE.out.bel⟩
    · have HZ : Hid (z = 4) := by
        unfold Hid
        rw [HRS.out]
        unfold fixB; rw [if_neg (by simp [lowB, uppB]; omega), if_pos (by simp [digB]; omega)]
      have e0 : decide (97 ≤ c) = false := by simp; omega
      have e1 : decide (65 ≤ c) = false := by simp; omega
      have e2 : 48 ≤ c := by omega
      have e3 : 0 ≤ c := by omega
      have e4 : c ≤ 122 := by omega
      have e5 : c ≤ 90 := by omega
      have e6 : c ≤ 57 := by omega
      have e7 : decide (c ≤ 32) = false := by simp; omega
      have e8 : c < 127 := by omega
      have e9 : 32 < c := by omega
      have e10 : (c == 45) = false := by simp; omega
      have e11 : (c == 46) = false := by simp; omega
      have e12 : (c == 127) = false := by simp; omega
      clear hcc
      go_enter Tryz.func34, Tryz.ntmps34
      go_wp2
      go_ret
      rw [HZ.out]
      exact ⟨rfl, HE.out.bel⟩
    · have HZ : Hid (z = 11) := by
        unfold Hid
        rw [HRS.out]
        unfold fixB; rw [if_neg (by simp [lowB, uppB]; omega), if_neg (by simp [digB]; omega), if_neg (by omega), if_neg (by omega), if_pos (by omega)]
      have e0 : decide (97 ≤ c) = false := by simp; omega
      have e1 : decide (65 ≤ c) = false := by simp; omega
      have e2 : decide (48 ≤ c) = false := by simp; omega
      have e3 : 0 ≤ c := by omega
      have e4 : c ≤ 122 := by omega
      have e5 : c ≤ 90 := by omega
      have e6 : c ≤ 57 := by omega
      have e7 : c ≤ 32 := by omega
      have e8 : c < 127 := by omega
      have e9 : decide (32 < c) = false := by simp; omega
      have e10 : (c == 45) = false := by simp; omega
      have e11 : (c == 46) = false := by simp; omega
      have e12 : (c == 127) = false := by simp; omega
      clear hcc
      go_enter Tryz.func34, Tryz.ntmps34
      go_wp2
      go_ret
      rw [HZ.out]
      exact ⟨rfl, HE.out.bel⟩
    · have HZ : Hid (z = 11) := by
        unfold Hid
        rw [HRS.out]
        unfold fixB; rw [if_neg (by simp [lowB, uppB]; omega), if_neg (by simp [digB]; omega), if_neg (by omega), if_neg (by omega), if_pos (by omega)]
      have e0 : 97 ≤ c := by omega
      have e1 : 65 ≤ c := by omega
      have e2 : 48 ≤ c := by omega
      have e3 : 0 ≤ c := by omega
      have e4 : decide (c ≤ 122) = false := by simp; omega
      have e5 : decide (c ≤ 90) = false := by simp; omega
      have e6 : decide (c ≤ 57) = false := by simp; omega
      have e7 : decide (c ≤ 32) = false := by simp; omega
      have e8 : decide (c < 127) = false := by simp; omega
      have e9 : 32 < c := by omega
      have e10 : (c == 45) = false := by simp; omega
      have e11 : (c == 46) = false := by simp; omega
      have e12 : (c == 127) = true := by simp; omega
      clear hcc
      go_enter Tryz.func34, Tryz.ntmps34
      go_wp2
      go_ret
      rw [HZ.out]
      exact ⟨rfl, HE.out.bel⟩
    · have HZ : Hid (z = 11) := by
        unfold Hid
        rw [HRS.out]
        unfold fixB; rw [if_neg (by simp [lowB, uppB]; omega), if_neg (by simp [digB]; omega), if_neg (by omega), if_neg (by omega), if_pos (by omega)]
      have e0 : decide (97 ≤ c) = false := by simp; omega
      have e1 : decide (65 ≤ c) = false := by simp; omega
      have e2 : decide (48 ≤ c) = false := by simp; omega
      have e3 : 0 ≤ c := by omega
      have e4 : c ≤ 122 := by omega
      have e5 : c ≤ 90 := by omega
      have e6 : c ≤ 57 := by omega
      have e7 : c ≤ 32 := by omega
      have e8 : c < 127 := by omega
      have e9 : decide (32 < c) = false := by simp; omega
      have e10 : (c == 45) = false := by simp; omega
      have e11 : (c == 46) = false := by simp; omega
      have e12 : (c == 127) = false := by simp; omega
      clear hcc
      go_enter Tryz.func34, Tryz.ntmps34
      go_wp2
      go_ret
      rw [HZ.out]
      exact ⟨rfl, HE.out.bel⟩
    · have HZ : Hid (z = 8) := by
        unfold Hid
        rw [HRS.out]
        unfold fixB; rw [if_neg (by simp [lowB, uppB]; omega), if_neg (by simp [digB]; omega), if_neg (by omega), if_neg (by omega), if_neg (by omega), if_pos (by omega)]
      have e0 : decide (97 ≤ c) = false := by simp; omega
      have e1 : decide (65 ≤ c) = false := by simp; omega
      have e2 : decide (48 ≤ c) = false := by simp; omega
      have e3 : 0 ≤ c := by omega
      have e4 : c ≤ 122 := by omega
      have e5 : c ≤ 90 := by omega
      have e6 : c ≤ 57 := by omega
      have e7 : decide (c ≤ 32) = false := by simp; omega
      have e8 : c < 127 := by omega
      have e9 : 32 < c := by omega
      have e10 : (c == 45) = false := by simp; omega
      have e11 : (c == 46) = false := by simp; omega
      have e12 : (c == 127) = false := by simp; omega
      clear hcc
      go_enter Tryz.func34, Tryz.ntmps34
      go_wp2
      go_ret
      rw [HZ.out]
      exact ⟨rfl, HE.out.bel⟩
    · have HZ : Hid (z = 5) := by
        unfold Hid
        rw [HRS.out]
        unfold fixB; rw [if_neg (by simp [lowB, uppB]; omega), if_neg (by simp [digB]; omega), if_pos (by omega)]
      have e0 : decide (97 ≤ c) = false := by simp; omega
      have e1 : decide (65 ≤ c) = false := by simp; omega
      have e2 : decide (48 ≤ c) = false := by simp; omega
      have e3 : 0 ≤ c := by omega
      have e4 : c ≤ 122 := by omega
      have e5 : c ≤ 90 := by omega
      have e6 : c ≤ 57 := by omega
      have e7 : decide (c ≤ 32) = false := by simp; omega
      have e8 : c < 127 := by omega
      have e9 : 32 < c := by omega
      have e10 : (c == 45) = true := by simp; omega
      have e11 : (c == 46) = false := by simp; omega
      have e12 : (c == 127) = false := by simp; omega
      clear hcc
      go_enter Tryz.func34, Tryz.ntmps34
      go_wp2
      go_ret
      rw [HZ.out]
      exact ⟨rfl, HE.out.bel⟩
    · have HZ : Hid (z = 6) := by
        unfold Hid
        rw [HRS.out]
        unfold fixB; rw [if_neg (by simp [lowB, uppB]; omega), if_neg (by simp [digB]; omega), if_neg (by omega), if_pos (by omega)]
      have e0 : decide (97 ≤ c) = false := by simp; omega
      have e1 : decide (65 ≤ c) = false := by simp; omega
      have e2 : decide (48 ≤ c) = false := by simp; omega
      have e3 : 0 ≤ c := by omega
      have e4 : c ≤ 122 := by omega
      have e5 : c ≤ 90 := by omega
      have e6 : c ≤ 57 := by omega
      have e7 : decide (c ≤ 32) = false := by simp; omega
      have e8 : c < 127 := by omega
      have e9 : 32 < c := by omega
      have e10 : (c == 45) = false := by simp; omega
      have e11 : (c == 46) = true := by simp; omega
      have e12 : (c == 127) = false := by simp; omega
      clear hcc
      go_enter Tryz.func34, Tryz.ntmps34
      go_wp2
      go_ret
      rw [HZ.out]
      exact ⟨rfl, HE.out.bel⟩
    · have HZ : Hid (z = 8) := by
        unfold Hid
        rw [HRS.out]
        unfold fixB; rw [if_neg (by simp [lowB, uppB]; omega), if_neg (by simp [digB]; omega), if_neg (by omega), if_neg (by omega), if_neg (by omega), if_pos (by omega)]
      have e0 : decide (97 ≤ c) = false := by simp; omega
      have e1 : decide (65 ≤ c) = false := by simp; omega
      have e2 : decide (48 ≤ c) = false := by simp; omega
      have e3 : 0 ≤ c := by omega
      have e4 : c ≤ 122 := by omega
      have e5 : c ≤ 90 := by omega
      have e6 : c ≤ 57 := by omega
      have e7 : decide (c ≤ 32) = false := by simp; omega
      have e8 : c < 127 := by omega
      have e9 : 32 < c := by omega
      have e10 : (c == 45) = false := by simp; omega
      have e11 : (c == 46) = false := by simp; omega
      have e12 : (c == 127) = false := by simp; omega
      clear hcc
      go_enter Tryz.func34, Tryz.ntmps34
      go_wp2
      go_ret
      rw [HZ.out]
      exact ⟨rfl, HE.out.bel⟩
    · have HZ : Hid (z = 8) := by
        unfold Hid
        rw [HRS.out]
        unfold fixB; rw [if_neg (by simp [lowB, uppB]; omega), if_neg (by simp [digB]; omega), if_neg (by omega), if_neg (by omega), if_neg (by omega), if_pos (by omega)]
      have e0 : decide (97 ≤ c) = false := by simp; omega
      have e1 : decide (65 ≤ c) = false := by simp; omega
      have e2 : 48 ≤ c := by omega
      have e3 : 0 ≤ c := by omega
      have e4 : c ≤ 122 := by omega
      have e5 : c ≤ 90 := by omega
      have e6 : decide (c ≤ 57) = false := by simp; omega
      have e7 : decide (c ≤ 32) = false := by simp; omega
      have e8 : c < 127 := by omega
      have e9 : 32 < c := by omega
      have e10 : (c == 45) = false := by simp; omega
      have e11 : (c == 46) = false := by simp; omega
      have e12 : (c == 127) = false := by simp; omega
      clear hcc
      go_enter Tryz.func34, Tryz.ntmps34
      go_wp2
      go_ret
      rw [HZ.out]
      exact ⟨rfl, HE.out.bel⟩
    · have HZ : Hid (z = 8) := by
        unfold Hid
        rw [HRS.out]
        unfold fixB; rw [if_neg (by simp [lowB, uppB]; omega), if_neg (by simp [digB]; omega), if_neg (by omega), if_neg (by omega), if_neg (by omega), if_pos (by omega)]
      have e0 : decide (97 ≤ c) = false := by simp; omega
      have e1 : 65 ≤ c := by omega
      have e2 : 48 ≤ c := by omega
      have e3 : 0 ≤ c := by omega
      have e4 : c ≤ 122 := by omega
      have e5 : decide (c ≤ 90) = false := by simp; omega
      have e6 : decide (c ≤ 57) = false := by simp; omega
      have e7 : decide (c ≤ 32) = false := by simp; omega
      have e8 : c < 127 := by omega
      have e9 : 32 < c := by omega
      have e10 : (c == 45) = false := by simp; omega
      have e11 : (c == 46) = false := by simp; omega
      have e12 : (c == 127) = false := by simp; omega
      clear hcc
      go_enter Tryz.func34, Tryz.ntmps34
      go_wp2
      go_ret
      rw [HZ.out]
      exact ⟨rfl, HE.out.bel⟩
    · have HZ : Hid (z = 8) := by
        unfold Hid
        rw [HRS.out]
        unfold fixB; rw [if_neg (by simp [lowB, uppB]; omega), if_neg (by simp [digB]; omega), if_neg (by omega), if_neg (by omega), if_neg (by omega), if_pos (by omega)]
      have e0 : 97 ≤ c := by omega
      have e1 : 65 ≤ c := by omega
      have e2 : 48 ≤ c := by omega
      have e3 : 0 ≤ c := by omega
      have e4 : decide (c ≤ 122) = false := by simp; omega
      have e5 : decide (c ≤ 90) = false := by simp; omega
      have e6 : decide (c ≤ 57) = false := by simp; omega
      have e7 : decide (c ≤ 32) = false := by simp; omega
      have e8 : c < 127 := by omega
      have e9 : 32 < c := by omega
      have e10 : (c == 45) = false := by simp; omega
      have e11 : (c == 46) = false := by simp; omega
      have e12 : (c == 127) = false := by simp; omega
      clear hcc
      go_enter Tryz.func34, Tryz.ntmps34
      go_wp2
      go_ret
      rw [HZ.out]
      exact ⟨rfl, HE.out.bel⟩

end Go.Proofs.YtiafhifbgdkgaaaGreatDoor
