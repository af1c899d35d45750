/- Properties of a code point, the program's and the reference' -/
import Derived.Test.YtopaojjodkoidaaGreatDoorSSmTblQ
set_option linter.unusedSimpArgs false
set_option linter.unusedVariables false
namespace Go.Proofs.YtopaojjodkoidaaGreatDoor
open Go.RowKit
set_option maxHeartbeats 2000000 in
theorem joining_at (x : TV) (T : Tb) (c : Int) (z : Int) (w : World) (hx : TabV w x T) (ha : ascB 0 T.joi = true) (hz : Hid (joiT T c = z)) :
 Calls Tryz.prog 92 #[x.agg, .int .i64 c] w (Gives (.int .i64 z) w) := by
 have HE := Lib.hid (Env.new hx)
 have k := HE.out.at2
 have HA := Lib.hid ha
 clear ha
 clear hx
 simp only [TV.agg]
 go_enter Tryz.func92, Tryz.ntmps92
 go_wp2_with fail
 refine (valueOr_at x.a2 T.joi c 0 z _ HE.out.tab.joi HA.out hz).mono ?_
 rintro e w1 ⟨rfl, hb⟩
 have HB := Lib.hid (HE.out.step hb)
 clear hb k
 go_wp2
 go_ret
 exact ⟨rfl, HB.out.bel⟩
set_option maxHeartbeats 2000000 in
theorem rjoining_at (x : TV) (T : Tb) (c : Int) (z : Int) (w : World) (hx : TabV w x T) (hz : Hid (joiT T c = z)) :
 Calls Tryz.prog 101 #[x.agg, .int .i64 c] w (Gives (.int .i64 z) w) := by
 have HE := Lib.hid (Env.new hx)
 have k := HE.out.at2
 clear hx
 simp only [TV.agg]
 go_enter Tryz.func101, Tryz.ntmps101
 go_wp2_with fail
 refine (rvalue_sp x.a2 T.joi c z _ HE.out.tab.joi hz).mono ?_
 rintro e w1 ⟨rfl, hb⟩
 have HB := Lib.hid (HE.out.step hb)
 clear hb k
 go_wp2
 go_ret
 exact ⟨rfl, HB.out.bel⟩
theorem low_syl {c : Int} (h : c ≤ 127) : sylB c = false := by
 cases hb : sylB c with
 | false => rfl
 | true => have := sylB_iff.1 hb; omega
theorem low_jam {c : Int} (h : c ≤ 127) : jamB c = false := by
 cases hb : jamB c with
 | false => rfl
 | true => have := jamB_iff.1 hb; omega
theorem res_low {c : Int} (h0 : 0 ≤ c) (h1 : c ≤ 127) : resB c = true := resB_iff.2 (.inl ⟨h1, h0⟩)
theorem res_syl {c : Int} (h : sylB c = true) : resB c = true := by have := sylB_iff.1 h; exact resB_iff.2 (by omega)
theorem res_jam {c : Int} (h : jamB c = true) : resB c = true := by have := jamB_iff.1 h; exact resB_iff.2 (by omega)
set_option maxHeartbeats 8000000 in
theorem rcat_at (x : TV) (T : Tb) (c z : Int) (w : World) (hx : TabV w x T) (hs : spOk T.cat = true) (hz : Hid (catT T c = z)) :
 Calls Tryz.prog 21 #[x.agg, .int .i64 c] w (Gives (.int .i64 z) w) := by
 have HE := Lib.hid (Env.new hx)
 have k := HE.out.at0
 have hfix : resB c = true → z = fixC c := fun h => by rw [← hz.out, catT, val_res hs h]; rfl
 have HFX := Lib.hid hfix
 clear hx hfix
 simp only [TV.agg]
 have hcases : (c < 0 ∨ 127 < c) ∨ ((97 ≤ c ∧ c ≤ 122) ∨ (65 ≤ c ∧ c ≤ 90) ∨ (48 ≤ c ∧ c ≤ 57) ∨ (0 ≤ c ∧ c ≤ 31) ∨ (127 ≤ c ∧ c ≤ 127) ∨ (32 ≤ c ∧ c ≤ 32) ∨ (33 ≤ c ∧ c ≤ 44) ∨ (45 ≤ c ∧ c ≤ 45) ∨ (46 ≤ c ∧ c ≤ 46) ∨ (47 ≤ c ∧ c ≤ 47) ∨ (58 ≤ c ∧ c ≤ 64) ∨ (91 ≤ c ∧ c ≤ 96) ∨ (123 ≤ c ∧ c ≤ 126)) := by omega
 rcases hcases with hcc | hcc
 ·have hvz : Hid ((val T.cat c).getD (fixC c) = z) := hz
  obtain ⟨S, hS⟩ : ∃ b, Hid (sylB c = b) := ⟨_, rfl⟩
  obtain ⟨J, hJ⟩ : ∃ b, Hid (jamB c = b) := ⟨_, rfl⟩
  have HV : Hid (S = false → J = false → (val T.cat c).getD 0 = z) := by
   intro h1 h2
   rw [← hz.out, catT]
   have : fixC c = 0 := by
    have h3 := hS.out
    have h4 := hJ.out
    subst h1
    subst h2
    unfold fixC; rw [if_neg (by simp [lowB, uppB, h3, h4]; omega), if_neg (by simp [digB]; omega), if_neg (by omega), if_neg (by omega), if_neg (by omega)]
   rw [this]
  have HZ1 : Hid (S = true ∨ J = true → z = 1) := by
   intro h
   have hr : resB c = true := by
    rcases h with h | h
    ·exact res_syl (hS.out.trans h)
    ·exact res_jam (hJ.out.trans h)
   rw [HFX.out hr]
   have h3 := hS.out
   have h4 := hJ.out
   rcases h with h | h
   ·subst h; unfold fixC; rw [if_pos (by simp [h3])]
   ·subst h; unfold fixC; rw [if_pos (by simp [h4])]
  clear hvz
  rcases hcc with hcc | hcc
  ·clear k
   have k := HE.out.at0
   have e0 : decide (97 ≤ c) = false := by simp; omega
   have e1 : decide (65 ≤ c) = false := by simp; omega
   have e2 : decide (48 ≤ c) = false := by simp; omega
   have e3 : decide (0 ≤ c) = false := by simp; omega
   have e4 : c ≤ 122 := by omega
   have e5 : c ≤ 90 := by omega
   have e6 : c ≤ 57 := by omega
   have e7 : c < 32 := by omega
   have e8 : c < 127 := by omega
   have e9 : decide (32 < c) = false := by simp; omega
   have e10 : (c == 127) = false := by simp; omega
   have e11 : (c == 32) = false := by simp; omega
   clear hcc
   cases S with
   | true =>
    have HR := HZ1.out (.inl rfl)
    have HRR := Lib.hid HR
    clear HR
    go_enter Tryz.func21, Tryz.ntmps21
    go_wp2_with fail
    refine (rsyl_at c true _ hS).mono ?_
    rintro e w5 ⟨rfl, rfl⟩
    go_wp2
    go_ret
    rw [HRR.out]
    exact ⟨rfl, HE.out.bel⟩
   | false =>
    cases J with
    | true =>
     have HR := HZ1.out (.inr rfl)
     have HRR := Lib.hid HR
     clear HR
     go_enter Tryz.func21, Tryz.ntmps21
     go_wp2_with fail
     refine (rsyl_at c false _ hS).mono ?_
     rintro e w5 ⟨rfl, rfl⟩
     go_wp2_with fail
     refine (rjam_at c true _ hJ).mono ?_
     rintro e w6 ⟨rfl, rfl⟩
     go_wp2
     go_ret
     rw [HRR.out]
     exact ⟨rfl, HE.out.bel⟩
    | false =>
     have HVV := Lib.hid (HV.out rfl rfl)
     go_enter Tryz.func21, Tryz.ntmps21
     go_wp2_with fail
     refine (rsyl_at c false _ hS).mono ?_
     rintro e w5 ⟨rfl, rfl⟩
     go_wp2_with fail
     refine (rjam_at c false _ hJ).mono ?_
     rintro e w6 ⟨rfl, rfl⟩
     go_wp2_with fail
     refine (rvalue_sp x.a0 T.cat c z _ HE.out.tab.cat HVV.out).mono ?_
     rintro e w7 ⟨rfl, hb⟩
     have HB := Lib.hid (HE.out.step hb)
     clear hb
     go_wp2
     go_ret
     exact ⟨rfl, HB.out.bel⟩
  ·clear k
   have k := HE.out.at0
   have e0 : 97 ≤ c := by omega
   have e1 : 65 ≤ c := by omega
   have e2 : 48 ≤ c := by omega
   have e3 : 0 ≤ c := by omega
   have e4 : decide (c ≤ 122) = false := by simp; omega
   have e5 : decide (c ≤ 90) = false := by simp; omega
   have e6 : decide (c ≤ 57) = false := by simp; omega
   have e7 : decide (c < 32) = false := by simp; omega
   have e8 : decide (c < 127) = false := by simp; omega
   have e9 : 32 < c := by omega
   have e10 : (c == 127) = false := by simp; omega
   have e11 : (c == 32) = false := by simp; omega
   clear hcc
   cases S with
   | true =>
    have HR := HZ1.out (.inl rfl)
    have HRR := Lib.hid HR
    clear HR
    go_enter Tryz.func21, Tryz.ntmps21
    go_wp2_with fail
    refine (rsyl_at c true _ hS).mono ?_
    rintro e w5 ⟨rfl, rfl⟩
    go_wp2
    go_ret
    rw [HRR.out]
    exact ⟨rfl, HE.out.bel⟩
   | false =>
    cases J with
    | true =>
     have HR := HZ1.out (.inr rfl)
     have HRR := Lib.hid HR
     clear HR
     go_enter Tryz.func21, Tryz.ntmps21
     go_wp2_with fail
     refine (rsyl_at c false _ hS).mono ?_
     rintro e w5 ⟨rfl, rfl⟩
     go_wp2_with fail
     refine (rjam_at c true _ hJ).mono ?_
     rintro e w6 ⟨rfl, rfl⟩
     go_wp2
     go_ret
     rw [HRR.out]
     exact ⟨rfl, HE.out.bel⟩
    | false =>
     have HVV := Lib.hid (HV.out rfl rfl)
     go_enter Tryz.func21, Tryz.ntmps21
     go_wp2_with fail
     refine (rsyl_at c false _ hS).mono ?_
     rintro e w5 ⟨rfl, rfl⟩
     go_wp2_with fail
     refine (rjam_at c false _ hJ).mono ?_
     rintro e w6 ⟨rfl, rfl⟩
     go_wp2_with fail
     refine (rvalue_sp x.a0 T.cat c z _ HE.out.tab.cat HVV.out).mono ?_
     rintro e w7 ⟨rfl, hb⟩
     have HB := Lib.hid (HE.out.step hb)
     clear hb
     go_wp2
     go_ret
     exact ⟨rfl, HB.out.bel⟩
 ·have HS0 : Hid (sylB c = false) := low_syl (by omega)
  have HJ0 : Hid (jamB c = false) := low_jam (by omega)
  have HRS := Lib.hid (HFX.out (res_low (by omega) (by omega)))
  rcases hcc with hcc | hcc | hcc | hcc | hcc | hcc | hcc | hcc | hcc | hcc | hcc | hcc | hcc
  ·have HZ : Hid (z = 1) := by
    unfold Hid
    rw [HRS.out]
    unfold fixC; rw [if_pos (by simp [lowB, uppB]; omega)]
   have e0 : 97 ≤ c := by omega
   have e1 : 65 ≤ c := by omega
   have e2 : 48 ≤ c := by omega
   have e3 : 0 ≤ c := by omega
   have e4 : c ≤ 122 := by omega
   have e5 : decide (c ≤ 90) = false := by simp; omega
   have e6 : decide (c ≤ 57) = false := by simp; omega
   have e7 : decide (c < 32) = false := by simp; omega
   have e8 : c < 127 := by omega
   have e9 : 32 < c := by omega
   have e10 : (c == 127) = false := by simp; omega
   have e11 : (c == 32) = false := by simp; omega
   clear hcc
   go_enter Tryz.func21, Tryz.ntmps21
   go_wp2
   go_ret
   rw [HZ.out]
   exact ⟨rfl, HE.out.bel⟩
  ·have HZ : Hid (z = 1) := by
    unfold Hid
    rw [HRS.out]
    unfold fixC; rw [if_pos (by simp [lowB, uppB]; omega)]
   have e0 : decide (97 ≤ c) = false := by simp; omega
   have e1 : 65 ≤ c := by omega
   have e2 : 48 ≤ c := by omega
   have e3 : 0 ≤ c := by omega
   have e4 : c ≤ 122 := by omega
   have e5 : c ≤ 90 := by omega
   have e6 : decide (c ≤ 57) = false := by simp; omega
   have e7 : decide (c < 32) = false := by simp; omega
   have e8 : c < 127 := by omega
   have e9 : 32 < c := by omega
   have e10 : (c == 127) = false := by simp; omega
   have e11 : (c == 32) = false := by simp; omega
   clear hcc
   go_enter Tryz.func21, Tryz.ntmps21
   go_wp2
   go_ret
   rw [HZ.out]
   exact ⟨rfl, HE.out.bel⟩
  ·have HZ : Hid (z = 3) := by
    unfold Hid
    rw [HRS.out]
    unfold fixC; rw [if_neg (by simp [lowB, uppB, HS0.out, HJ0.out]; omega), if_pos (by simp [digB]; omega)]
   have e0 : decide (97 ≤ c) = false := by simp; omega
   have e1 : decide (65 ≤ c) = false := by simp; omega
   have e2 : 48 ≤ c := by omega
   have e3 : 0 ≤ c := by omega
   have e4 : c ≤ 122 := by omega
   have e5 : c ≤ 90 := by omega
   have e6 : c ≤ 57 := by omega
   have e7 : decide (c < 32) = false := by simp; omega
   have e8 : c < 127 := by omega
   have e9 : 32 < c := by omega
   have e10 : (c == 127) = false := by simp; omega
   have e11 : (c == 32) = false := by simp; omega
   clear hcc
   go_enter Tryz.func21, Tryz.ntmps21
   go_wp2_with fail
   refine (rsyl_at c false _ HS0).mono ?_
   rintro e w5 ⟨rfl, rfl⟩
   go_wp2_with fail
   refine (rjam_at c false _ HJ0).mono ?_
   rintro e w6 ⟨rfl, rfl⟩
   go_wp2
   go_ret
   rw [HZ.out]
   exact ⟨rfl, HE.out.bel⟩
  ·have HZ : Hid (z = 8) := by
    unfold Hid
    rw [HRS.out]
    unfold fixC; rw [if_neg (by simp [lowB, uppB, HS0.out, HJ0.out]; omega), if_neg (by simp [digB]; omega), if_pos (by omega)]
   have e0 : decide (97 ≤ c) = false := by simp; omega
   have e1 : decide (65 ≤ c) = false := by simp; omega
   have e2 : decide (48 ≤ c) = false := by simp; omega
   have e3 : 0 ≤ c := by omega
   have e4 : c ≤ 122 := by omega
   have e5 : c ≤ 90 := by omega
   have e6 : c ≤ 57 := by omega
   have e7 : c < 32 := by omega
   have e8 : c < 127 := by omega
   have e9 : decide (32 < c) = false := by simp; omega
   have e10 : (c == 127) = false := by simp; omega
   have e11 : (c == 32) = false := by simp; omega
   clear hcc
   go_enter Tryz.func21, Tryz.ntmps21
   go_wp2_with fail
   refine (rsyl_at c false _ HS0).mono ?_
   rintro e w5 ⟨rfl, rfl⟩
   go_wp2_with fail
   refine (rjam_at c false _ HJ0).mono ?_
   rintro e w6 ⟨rfl, rfl⟩
   go_wp2
   go_ret
   rw [HZ.out]
   exact ⟨rfl, HE.out.bel⟩
  ·have HZ : Hid (z = 8) := by
    unfold Hid
    rw [HRS.out]
    unfold fixC; rw [if_neg (by simp [lowB, uppB, HS0.out, HJ0.out]; omega), if_neg (by simp [digB]; omega), if_pos (by omega)]
   have e0 : 97 ≤ c := by omega
   have e1 : 65 ≤ c := by omega
   have e2 : 48 ≤ c := by omega
   have e3 : 0 ≤ c := by omega
   have e4 : decide (c ≤ 122) = false := by simp; omega
   have e5 : decide (c ≤ 90) = false := by simp; omega
   have e6 : decide (c ≤ 57) = false := by simp; omega
   have e7 : decide (c < 32) = false := by simp; omega
   have e8 : decide (c < 127) = false := by simp; omega
   have e9 : 32 < c := by omega
   have e10 : (c == 127) = true := by simp; omega
   have e11 : (c == 32) = false := by simp; omega
   clear hcc
   go_enter Tryz.func21, Tryz.ntmps21
   go_wp2_with fail
   refine (rsyl_at c false _ HS0).mono ?_
   rintro e w5 ⟨rfl, rfl⟩
   go_wp2_with fail
   refine (rjam_at c false _ HJ0).mono ?_
   rintro e w6 ⟨rfl, rfl⟩
   go_wp2
   go_ret
   rw [HZ.out]
   exact ⟨rfl, HE.out.bel⟩
  ·have HZ : Hid (z = 7) := by
    unfold Hid
    rw [HRS.out]
    unfold fixC; rw [if_neg (by simp [lowB, uppB, HS0.out, HJ0.out]; omega), if_neg (by simp [digB]; omega), if_neg (by omega), if_pos (by omega)]
   have e0 : decide (97 ≤ c) = false := by simp; omega
   have e1 : decide (65 ≤ c) = false := by simp; omega
   have e2 : decide (48 ≤ c) = false := by simp; omega
   have e3 : 0 ≤ c := by omega
   have e4 : c ≤ 122 := by omega
   have e5 : c ≤ 90 := by omega
   have e6 : c ≤ 57 := by omega
   have e7 : decide (c < 32) = false := by simp; omega
   have e8 : c < 127 := by omega
   have e9 : decide (32 < c) = false := by simp; omega
   have e10 : (c == 127) = false := by simp; omega
   have e11 : (c == 32) = true := by simp; omega
   clear hcc
   go_enter Tryz.func21, Tryz.ntmps21
   go_wp2_with fail
   refine (rsyl_at c false _ HS0).mono ?_
   rintro e w5 ⟨rfl, rfl⟩
   go_wp2_with fail
   refine (rjam_at c false _ HJ0).mono ?_
   rintro e w6 ⟨rfl, rfl⟩
   go_wp2
   go_ret
   rw [HZ.out]
   exact ⟨rfl, HE.out.bel⟩
  ·have HZ : Hid (z = 5) := by
    unfold Hid
    rw [HRS.out]
    unfold fixC; rw [if_neg (by simp [lowB, uppB, HS0.out, HJ0.out]; omega), if_neg (by simp [digB]; omega), if_neg (by omega), if_neg (by omega), if_pos (by omega)]
   have e0 : decide (97 ≤ c) = false := by simp; omega
   have e1 : decide (65 ≤ c) = false := by simp; omega
   have e2 : decide (48 ≤ c) = false := by simp; omega
   have e3 : 0 ≤ c := by omega
   have e4 : c ≤ 122 := by omega
   have e5 : c ≤ 90 := by omega
   have e6 : c ≤ 57 := by omega
   have e7 : decide (c < 32) = false := by simp; omega
   have e8 : c < 127 := by omega
   have e9 : 32 < c := by omega
   have e10 : (c == 127) = false := by simp; omega
   have e11 : (c == 32) = false := by simp; omega
   clear hcc
   go_enter Tryz.func21, Tryz.ntmps21
   go_wp2_with fail
   refine (rsyl_at c false _ HS0).mono ?_
   rintro e w5 ⟨rfl, rfl⟩
   go_wp2_with fail
   refine (rjam_at c false _ HJ0).mono ?_
   rintro e w6 ⟨rfl, rfl⟩
   go_wp2
   go_ret
   rw [HZ.out]
   exact ⟨rfl, HE.out.bel⟩
  ·have HZ : Hid (z = 5) := by
    unfold Hid
    rw [HRS.out]
    unfold fixC; rw [if_neg (by simp [lowB, uppB, HS0.out, HJ0.out]; omega), if_neg (by simp [digB]; omega), if_neg (by omega), if_neg (by omega), if_pos (by omega)]
   have e0 : decide (97 ≤ c) = false := by simp; omega
   have e1 : decide (65 ≤ c) = false := by simp; omega
   have e2 : decide (48 ≤ c) = false := by simp; omega
   have e3 : 0 ≤ c := by omega
   have e4 : c ≤ 122 := by omega
   have e5 : c ≤ 90 := by omega
   have e6 : c ≤ 57 := by omega
   have e7 : decide (c < 32) = false := by simp; omega
   have e8 : c < 127 := by omega
   have e9 : 32 < c := by omega
   have e10 : (c == 127) = false := by simp; omega
   have e11 : (c == 32) = false := by simp; omega
   clear hcc
   go_enter Tryz.func21, Tryz.ntmps21
   go_wp2_with fail
   refine (rsyl_at c false _ HS0).mono ?_
   rintro e w5 ⟨rfl, rfl⟩
   go_wp2_with fail
   refine (rjam_at c false _ HJ0).mono ?_
   rintro e w6 ⟨rfl, rfl⟩
   go_wp2
   go_ret
   rw [HZ.out]
   exact ⟨rfl, HE.out.bel⟩
  ·have HZ : Hid (z = 5) := by
    unfold Hid
    rw [HRS.out]
    unfold fixC; rw [if_neg (by simp [lowB, uppB, HS0.out, HJ0.out]; omega), if_neg (by simp [digB]; omega), if_neg (by omega), if_neg (by omega), if_pos (by omega)]
   have e0 : decide (97 ≤ c) = false := by simp; omega
   have e1 : decide (65 ≤ c) = false := by simp; omega
   have e2 : decide (48 ≤ c) = false := by simp; omega
   have e3 : 0 ≤ c := by omega
   have e4 : c ≤ 122 := by omega
   have e5 : c ≤ 90 := by omega
   have e6 : c ≤ 57 := by omega
   have e7 : decide (c < 32) = false := by simp; omega
   have e8 : c < 127 := by omega
   have e9 : 32 < c := by omega
   have e10 : (c == 127) = false := by simp; omega
   have e11 : (c == 32) = false := by simp; omega
   clear hcc
   go_enter Tryz.func21, Tryz.ntmps21
   go_wp2_with fail
   refine (rsyl_at c false _ HS0).mono ?_
   rintro e w5 ⟨rfl, rfl⟩
   go_wp2_with fail
   refine (rjam_at c false _ HJ0).mono ?_
   rintro e w6 ⟨rfl, rfl⟩
   go_wp2
   go_ret
   rw [HZ.out]
   exact ⟨rfl, HE.out.bel⟩
  ·have HZ : Hid (z = 5) := by
    unfold Hid
    rw [HRS.out]
    unfold fixC; rw [if_neg (by simp [lowB, uppB, HS0.out, HJ0.out]; omega), if_neg (by simp [digB]; omega), if_neg (by omega), if_neg (by omega), if_pos (by omega)]
   have e0 : decide (97 ≤ c) = false := by simp; omega
   have e1 : decide (65 ≤ c) = false := by simp; omega
   have e2 : decide (48 ≤ c) = false := by simp; omega
   have e3 : 0 ≤ c := by omega
   have e4 : c ≤ 122 := by omega
   have e5 : c ≤ 90 := by omega
   have e6 : c ≤ 57 := by omega
   have e7 : decide (c < 32) = false := by simp; omega
   have e8 : c < 127 := by omega
   have e9 : 32 < c := by omega
   have e10 : (c == 127) = false := by simp; omega
   have e11 : (c == 32) = false := by simp; omega
   clear hcc
   go_enter Tryz.func21, Tryz.ntmps21
   go_wp2_with fail
   refine (rsyl_at c false _ HS0).mono ?_
   rintro e w5 ⟨rfl, rfl⟩
   go_wp2_with fail
   refine (rjam_at c false _ HJ0).mono ?_
   rintro e w6 ⟨rfl, rfl⟩
   go_wp2
   go_ret
   rw [HZ.out]
   exact ⟨rfl, HE.out.bel⟩
  ·have HZ : Hid (z = 5) := by
    unfold Hid
    rw [HRS.out]
    unfold fixC; rw [if_neg (by simp [lowB, uppB, HS0.out, HJ0.out]; omega), if_neg (by simp [digB]; omega), if_neg (by omega), if_neg (by omega), if_pos (by omega)]
   have e0 : decide (97 ≤ c) = false := by simp; omega
   have e1 : decide (65 ≤ c) = false := by simp; omega
   have e2 : 48 ≤ c := by omega
   have e3 : 0 ≤ c := by omega
   have e4 : c ≤ 122 := by omega
   have e5 : c ≤ 90 := by omega
   have e6 : decide (c ≤ 57) = false := by simp; omega
   have e7 : decide (c < 32) = false := by simp; omega
   have e8 : c < 127 := by omega
   have e9 : 32 < c := by omega
   have e10 : (c == 127) = false := by simp; omega
   have e11 : (c == 32) = false := by simp; omega
   clear hcc
   go_enter Tryz.func21, Tryz.ntmps21
   go_wp2_with fail
   refine (rsyl_at c false _ HS0).mono ?_
   rintro e w5 ⟨rfl, rfl⟩
   go_wp2_with fail
   refine (rjam_at c false _ HJ0).mono ?_
   rintro e w6 ⟨rfl, rfl⟩
   go_wp2
   go_ret
   rw [HZ.out]
   exact ⟨rfl, HE.out.bel⟩
  ·have HZ : Hid (z = 5) := by
    unfold Hid
    rw [HRS.out]
    unfold fixC; rw [if_neg (by simp [lowB, uppB, HS0.out, HJ0.out]; omega), if_neg (by simp [digB]; omega), if_neg (by omega), if_neg (by omega), if_pos (by omega)]
   have e0 : decide (97 ≤ c) = false := by simp; omega
   have e1 : 65 ≤ c := by omega
   have e2 : 48 ≤ c := by omega
   have e3 : 0 ≤ c := by omega
   have e4 : c ≤ 122 := by omega
   have e5 : decide (c ≤ 90) = false := by simp; omega
   have e6 : decide (c ≤ 57) = false := by simp; omega
   have e7 : decide (c < 32) = false := by simp; omega
   have e8 : c < 127 := by omega
   have e9 : 32 < c := by omega
   have e10 : (c == 127) = false := by simp; omega
   have e11 : (c == 32) = false := by simp; omega
   clear hcc
   go_enter Tryz.func21, Tryz.ntmps21
   go_wp2_with fail
   refine (rsyl_at c false _ HS0).mono ?_
   rintro e w5 ⟨rfl, rfl⟩
   go_wp2_with fail
   refine (rjam_at c false _ HJ0).mono ?_
   rintro e w6 ⟨rfl, rfl⟩
   go_wp2
   go_ret
   rw [HZ.out]
   exact ⟨rfl, HE.out.bel⟩
  ·have HZ : Hid (z = 5) := by
    unfold Hid
    rw [HRS.out]
    unfold fixC; rw [if_neg (by simp [lowB, uppB, HS0.out, HJ0.out]; omega), if_neg (by simp [digB]; omega), if_neg (by omega), if_neg (by omega), if_pos (by omega)]
   have e0 : 97 ≤ c := by omega
   have e1 : 65 ≤ c := by omega
   have e2 : 48 ≤ c := by omega
   have e3 : 0 ≤ c := by omega
   have e4 : decide (c ≤ 122) = false := by simp; omega
   have e5 : decide (c ≤ 90) = false := by simp; omega
   have e6 : decide (c ≤ 57) = false := by simp; omega
   have e7 : decide (c < 32) = false := by simp; omega
   have e8 : c < 127 := by omega
   have e9 : 32 < c := by omega
   have e10 : (c == 127) = false := by simp; omega
   have e11 : (c == 32) = false := by simp; omega
   clear hcc
   go_enter Tryz.func21, Tryz.ntmps21
   go_wp2_with fail
   refine (rsyl_at c false _ HS0).mono ?_
   rintro e w5 ⟨rfl, rfl⟩
   go_wp2_with fail
   refine (rjam_at c false _ HJ0).mono ?_
   rintro e w6 ⟨rfl, rfl⟩
   go_wp2
   go_ret
   rw [HZ.out]
   exact ⟨rfl, HE.out.bel⟩
set_option maxHeartbeats 8000000 in
theorem rscr_at (x : TV) (T : Tb) (c z : Int) (w : World) (hx : TabV w x T) (hs : spOk T.scr = true) (hz : Hid (scrT T c = z)) :
 Calls Tryz.prog 102 #[x.agg, .int .i64 c] w (Gives (.int .i64 z) w) := by
 have HE := Lib.hid (Env.new hx)
 have k := HE.out.at4
 have hfix : resB c = true → z = fixS c := fun h => by rw [← hz.out, scrT, val_res hs h]; rfl
 have HFX := Lib.hid hfix
 clear hx hfix
 simp only [TV.agg]
 have hcases : (c < 0 ∨ 127 < c) ∨ ((97 ≤ c ∧ c ≤ 122) ∨ (65 ≤ c ∧ c ≤ 90) ∨ (48 ≤ c ∧ c ≤ 57) ∨ (0 ≤ c ∧ c ≤ 31) ∨ (127 ≤ c ∧ c ≤ 127) ∨ (32 ≤ c ∧ c ≤ 32) ∨ (33 ≤ c ∧ c ≤ 44) ∨ (45 ≤ c ∧ c ≤ 45) ∨ (46 ≤ c ∧ c ≤ 46) ∨ (47 ≤ c ∧ c ≤ 47) ∨ (58 ≤ c ∧ c ≤ 64) ∨ (91 ≤ c ∧ c ≤ 96) ∨ (123 ≤ c ∧ c ≤ 126)) := by omega
 rcases hcases with hcc | hcc
 ·have hvz : Hid ((val T.scr c).getD (fixS c) = z) := hz
  obtain ⟨S, hS⟩ : ∃ b, Hid (sylB c = b) := ⟨_, rfl⟩
  obtain ⟨J, hJ⟩ : ∃ b, Hid (jamB c = b) := ⟨_, rfl⟩
  have HV : Hid (S = false → J = false → (val T.scr c).getD 0 = z) := by
   intro h1 h2
   rw [← hz.out, scrT]
   have : fixS c = 0 := by
    have h3 := hS.out
    have h4 := hJ.out
    subst h1
    subst h2
    unfold fixS; rw [if_neg (by simp [lowB, uppB]; omega), if_neg (by omega), if_neg (by simp [h3, h4])]
   rw [this]
  have HZ1 : Hid (S = true ∨ J = true → z = 9) := by
   intro h
   have hr : resB c = true := by
    rcases h with h | h
    ·exact res_syl (hS.out.trans h)
    ·exact res_jam (hJ.out.trans h)
   rw [HFX.out hr]
   have h3 := hS.out
   have h4 := hJ.out
   rcases h with h | h
   ·subst h; have := sylB_iff.1 h3; unfold fixS; rw [if_neg (by simp [lowB, uppB]; omega), if_neg (by omega), if_pos (by simp [h3])]
   ·subst h; have := jamB_iff.1 h4; unfold fixS; rw [if_neg (by simp [lowB, uppB]; omega), if_neg (by omega), if_pos (by simp [h4])]
  clear hvz
  rcases hcc with hcc | hcc
  ·clear k
   have k := HE.out.at4
   have e0 : decide (97 ≤ c) = false := by simp; omega
   have e1 : decide (65 ≤ c) = false := by simp; omega
   have e2 : decide (0 ≤ c) = false := by simp; omega
   have e3 : c ≤ 122 := by omega
   have e4 : c ≤ 90 := by omega
   have e5 : c ≤ 127 := by omega
   clear hcc
   cases S with
   | true =>
    have HR := HZ1.out (.inl rfl)
    have HRR := Lib.hid HR
    clear HR
    go_enter Tryz.func102, Tryz.ntmps102
    go_wp2_with fail
    refine (rsyl_at c true _ hS).mono ?_
    rintro e w5 ⟨rfl, rfl⟩
    go_wp2
    go_ret
    rw [HRR.out]
    exact ⟨rfl, HE.out.bel⟩
   | false =>
    cases J with
    | true =>
     have HR := HZ1.out (.inr rfl)
     have HRR := Lib.hid HR
     clear HR
     go_enter Tryz.func102, Tryz.ntmps102
     go_wp2_with fail
     refine (rsyl_at c false _ hS).mono ?_
     rintro e w5 ⟨rfl, rfl⟩
     go_wp2_with fail
     refine (rjam_at c true _ hJ).mono ?_
     rintro e w6 ⟨rfl, rfl⟩
     go_wp2
     go_ret
     rw [HRR.out]
     exact ⟨rfl, HE.out.bel⟩
    | false =>
     have HVV := Lib.hid (HV.out rfl rfl)
     go_enter Tryz.func102, Tryz.ntmps102
     go_wp2_with fail
     refine (rsyl_at c false _ hS).mono ?_
     rintro e w5 ⟨rfl, rfl⟩
     go_wp2_with fail
     refine (rjam_at c false _ hJ).mono ?_
     rintro e w6 ⟨rfl, rfl⟩
     go_wp2_with fail
     refine (rvalue_sp x.a4 T.scr c z _ HE.out.tab.scr HVV.out).mono ?_
     rintro e w7 ⟨rfl, hb⟩
     have HB := Lib.hid (HE.out.step hb)
     clear hb
     go_wp2
     go_ret
     exact ⟨rfl, HB.out.bel⟩
  ·clear k
   have k := HE.out.at4
   have e0 : 97 ≤ c := by omega
   have e1 : 65 ≤ c := by omega
   have e2 : 0 ≤ c := by omega
   have e3 : decide (c ≤ 122) = false := by simp; omega
   have e4 : decide (c ≤ 90) = false := by simp; omega
   have e5 : decide (c ≤ 127) = false := by simp; omega
   clear hcc
   cases S with
   | true =>
    have HR := HZ1.out (.inl rfl)
    have HRR := Lib.hid HR
    clear HR
    go_enter Tryz.func102, Tryz.ntmps102
    go_wp2_with fail
    refine (rsyl_at c true _ hS).mono ?_
    rintro e w5 ⟨rfl, rfl⟩
    go_wp2
    go_ret
    rw [HRR.out]
    exact ⟨rfl, HE.out.bel⟩
   | false =>
    cases J with
    | true =>
     have HR := HZ1.out (.inr rfl)
     have HRR := Lib.hid HR
     clear HR
     go_enter Tryz.func102, Tryz.ntmps102
     go_wp2_with fail
     refine (rsyl_at c false _ hS).mono ?_
     rintro e w5 ⟨rfl, rfl⟩
     go_wp2_with fail
     refine (rjam_at c true _ hJ).mono ?_
     rintro e w6 ⟨rfl, rfl⟩
     go_wp2
     go_ret
     rw [HRR.out]
     exact ⟨rfl, HE.out.bel⟩
    | false =>
     have HVV := Lib.hid (HV.out rfl rfl)
     go_enter Tryz.func102, Tryz.ntmps102
     go_wp2_with fail
     refine (rsyl_at c false _ hS).mono ?_
     rintro e w5 ⟨rfl, rfl⟩
     go_wp2_with fail
     refine (rjam_at c false _ hJ).mono ?_
     rintro e w6 ⟨rfl, rfl⟩
     go_wp2_with fail
     refine (rvalue_sp x.a4 T.scr c z _ HE.out.tab.scr HVV.out).mono ?_
     rintro e w7 ⟨rfl, hb⟩
     have HB := Lib.hid (HE.out.step hb)
     clear hb
     go_wp2
     go_ret
     exact ⟨rfl, HB.out.bel⟩
 ·have HS0 : Hid (sylB c = false) := low_syl (by omega)
  have HJ0 : Hid (jamB c = false) := low_jam (by omega)
  have HRS := Lib.hid (HFX.out (res_low (by omega) (by omega)))
  rcases hcc with hcc | hcc | hcc | hcc | hcc | hcc | hcc | hcc | hcc | hcc | hcc | hcc | hcc
  ·have HZ : Hid (z = 3) := by
    unfold Hid
    rw [HRS.out]
    unfold fixS; rw [if_pos (by simp [lowB, uppB]; omega)]
   have e0 : 97 ≤ c := by omega
   have e1 : 65 ≤ c := by omega
   have e2 : 0 ≤ c := by omega
   have e3 : c ≤ 122 := by omega
   have e4 : decide (c ≤ 90) = false := by simp; omega
   have e5 : c ≤ 127 := by omega
   clear hcc
   go_enter Tryz.func102, Tryz.ntmps102
   go_wp2
   go_ret
   rw [HZ.out]
   exact ⟨rfl, HE.out.bel⟩
  ·have HZ : Hid (z = 3) := by
    unfold Hid
    rw [HRS.out]
    unfold fixS; rw [if_pos (by simp [lowB, uppB]; omega)]
   have e0 : decide (97 ≤ c) = false := by simp; omega
   have e1 : 65 ≤ c := by omega
   have e2 : 0 ≤ c := by omega
   have e3 : c ≤ 122 := by omega
   have e4 : c ≤ 90 := by omega
   have e5 : c ≤ 127 := by omega
   clear hcc
   go_enter Tryz.func102, Tryz.ntmps102
   go_wp2
   go_ret
   rw [HZ.out]
   exact ⟨rfl, HE.out.bel⟩
  ·have HZ : Hid (z = 1) := by
    unfold Hid
    rw [HRS.out]
    unfold fixS; rw [if_neg (by simp [lowB, uppB]; omega), if_pos (by omega)]
   have e0 : decide (97 ≤ c) = false := by simp; omega
   have e1 : decide (65 ≤ c) = false := by simp; omega
   have e2 : 0 ≤ c := by omega
   have e3 : c ≤ 122 := by omega
   have e4 : c ≤ 90 := by omega
   have e5 : c ≤ 127 := by omega
   clear hcc
   go_enter Tryz.func102, Tryz.ntmps102
   go_wp2
   go_ret
   rw [HZ.out]
   exact ⟨rfl, HE.out.bel⟩
  ·have HZ : Hid (z = 1) := by
    unfold Hid
    rw [HRS.out]
    unfold fixS; rw [if_neg (by simp [lowB, uppB]; omega), if_pos (by omega)]
   have e0 : decide (97 ≤ c) = false := by simp; omega
   have e1 : decide (65 ≤ c) = false := by simp; omega
   have e2 : 0 ≤ c := by omega
   have e3 : c ≤ 122 := by omega
   have e4 : c ≤ 90 := by omega
   have e5 : c ≤ 127 := by omega
   clear hcc
   go_enter Tryz.func102, Tryz.ntmps102
   go_wp2
   go_ret
   rw [HZ.out]
   exact ⟨rfl, HE.out.bel⟩
  ·have HZ : Hid (z = 1) := by
    unfold Hid
    rw [HRS.out]
    unfold fixS; rw [if_neg (by simp [lowB, uppB]; omega), if_pos (by omega)]
   have e0 : 97 ≤ c := by omega
   have e1 : 65 ≤ c := by omega
   have e2 : 0 ≤ c := by omega
   have e3 : decide (c ≤ 122) = false := by simp; omega
   have e4 : decide (c ≤ 90) = false := by simp; omega
   have e5 : c ≤ 127 := by omega
   clear hcc
   go_enter Tryz.func102, Tryz.ntmps102
   go_wp2
   go_ret
   rw [HZ.out]
   exact ⟨rfl, HE.out.bel⟩
  ·have HZ : Hid (z = 1) := by
    unfold Hid
    rw [HRS.out]
    unfold fixS; rw [if_neg (by simp [lowB, uppB]; omega), if_pos (by omega)]
   have e0 : decide (97 ≤ c) = false := by simp; omega
   have e1 : decide (65 ≤ c) = false := by simp; omega
   have e2 : 0 ≤ c := by omega
   have e3 : c ≤ 122 := by omega
   have e4 : c ≤ 90 := by omega
   have e5 : c ≤ 127 := by omega
   clear hcc
   go_enter Tryz.func102, Tryz.ntmps102
   go_wp2
   go_ret
   rw [HZ.out]
   exact ⟨rfl, HE.out.bel⟩
  ·have HZ : Hid (z = 1) := by
    unfold Hid
    rw [HRS.out]
    unfold fixS; rw [if_neg (by simp [lowB, uppB]; omega), if_pos (by omega)]
   have e0 : decide (97 ≤ c) = false := by simp; omega
   have e1 : decide (65 ≤ c) = false := by simp; omega
   have e2 : 0 ≤ c := by omega
   have e3 : c ≤ 122 := by omega
   have e4 : c ≤ 90 := by omega
   have e5 : c ≤ 127 := by omega
   clear hcc
   go_enter Tryz.func102, Tryz.ntmps102
   go_wp2
   go_ret
   rw [HZ.out]
   exact ⟨rfl, HE.out.bel⟩
  ·have HZ : Hid (z = 1) := by
    unfold Hid
    rw [HRS.out]
    unfold fixS; rw [if_neg (by simp [lowB, uppB]; omega), if_pos (by omega)]
   have e0 : decide (97 ≤ c) = false := by simp; omega
   have e1 : decide (65 ≤ c) = false := by simp; omega
   have e2 : 0 ≤ c := by omega
   have e3 : c ≤ 122 := by omega
   have e4 : c ≤ 90 := by omega
   have e5 : c ≤ 127 := by omega
   clear hcc
   go_enter Tryz.func102, Tryz.ntmps102
   go_wp2
   go_ret
   rw [HZ.out]
   exact ⟨rfl, HE.out.bel⟩
  ·have HZ : Hid (z = 1) := by
    unfold Hid
    rw [HRS.out]
    unfold fixS; rw [if_neg (by simp [lowB, uppB]; omega), if_pos (by omega)]
   have e0 : decide (97 ≤ c) = false := by simp; omega
   have e1 : decide (65 ≤ c) = false := by simp; omega
   have e2 : 0 ≤ c := by omega
   have e3 : c ≤ 122 := by omega
   have e4 : c ≤ 90 := by omega
   have e5 : c ≤ 127 := by omega
   clear hcc
   go_enter Tryz.func102, Tryz.ntmps102
   go_wp2
   go_ret
   rw [HZ.out]
   exact ⟨rfl, HE.out.bel⟩
  ·have HZ : Hid (z = 1) := by
    unfold Hid
    rw [HRS.out]
    unfold fixS; rw [if_neg (by simp [lowB, uppB]; omega), if_pos (by omega)]
   have e0 : decide (97 ≤ c) = false := by simp; omega
   have e1 : decide (65 ≤ c) = false := by simp; omega
   have e2 : 0 ≤ c := by omega
   have e3 : c ≤ 122 := by omega
   have e4 : c ≤ 90 := by omega
   have e5 : c ≤ 127 := by omega
   clear hcc
   go_enter Tryz.func102, Tryz.ntmps102
   go_wp2
   go_ret
   rw [HZ.out]
   exact ⟨rfl, HE.out.bel⟩
  ·have HZ : Hid (z = 1) := by
    unfold Hid
    rw [HRS.out]
    unfold fixS; rw [if_neg (by simp [lowB, uppB]; omega), if_pos (by omega)]
   have e0 : decide (97 ≤ c) = false := by simp; omega
   have e1 : decide (65 ≤ c) = false := by simp; omega
   have e2 : 0 ≤ c := by omega
   have e3 : c ≤ 122 := by omega
   have e4 : c ≤ 90 := by omega
   have e5 : c ≤ 127 := by omega
   clear hcc
   go_enter Tryz.func102, Tryz.ntmps102
   go_wp2
   go_ret
   rw [HZ.out]
   exact ⟨rfl, HE.out.bel⟩
  ·have HZ : Hid (z = 1) := by
    unfold Hid
    rw [HRS.out]
    unfold fixS; rw [if_neg (by simp [lowB, uppB]; omega), if_pos (by omega)]
   have e0 : decide (97 ≤ c) = false := by simp; omega
   have e1 : 65 ≤ c := by omega
   have e2 : 0 ≤ c := by omega
   have e3 : c ≤ 122 := by omega
   have e4 : decide (c ≤ 90) = false := by simp; omega
   have e5 : c ≤ 127 := by omega
   clear hcc
   go_enter Tryz.func102, Tryz.ntmps102
   go_wp2
   go_ret
   rw [HZ.out]
   exact ⟨rfl, HE.out.bel⟩
  ·have HZ : Hid (z = 1) := by
    unfold Hid
    rw [HRS.out]
    unfold fixS; rw [if_neg (by simp [lowB, uppB]; omega), if_pos (by omega)]
   have e0 : 97 ≤ c := by omega
   have e1 : 65 ≤ c := by omega
   have e2 : 0 ≤ c := by omega
   have e3 : decide (c ≤ 122) = false := by simp; omega
   have e4 : decide (c ≤ 90) = false := by simp; omega
   have e5 : c ≤ 127 := by omega
   clear hcc
   go_enter Tryz.func102, Tryz.ntmps102
   go_wp2
   go_ret
   rw [HZ.out]
   exact ⟨rfl, HE.out.bel⟩
end Go.Proofs.YtopaojjodkoidaaGreatDoor
