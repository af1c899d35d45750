/-
  Tests of a code point: table's and the references'.
-/
import Derived.Test.YtiafhifbgdkgaaaGreatDoorPkB
import Derived.BigGuardPart
set_option linter.unusedSimpArgs false
set_option linter.unusedVariables false
namespace Go.Proofs.YtiafhifbgdkgaaaGreatDoor
open Go.RowKit
set_option linter.unusedVariables false

theorem iff_ret {a b : Bool} (h : a = true ↔ b = true) : Ending.returned (.bool a) = .returned (.bool b) := by
  rw [Bool.eq_iff_iff.2 h]

theorem upp_any (c : Int) (w : World) : Calls Tryz.prog 101 #[.int .i64 c] w fun e w' => e = .returned (.bool (uppB c)) ∧ w = w' := by
  have HJ := Lib.hid (@uppB_iff c)
  go_enter Tryz.func101, Tryz.ntmps101
  go_wp2
  all_goals
    go_ret
    exact ⟨iff_ret (by rw [HJ.out]; first | (simp; done) | (simp; omega)), rfl⟩

theorem dig_any (c : Int) (w : World) : Calls Tryz.prog 88 #[.int .i64 c] w fun e w' => e = .returned (.bool (digB c)) ∧ w = w' := by
  have HJ := Lib.hid (@digB_iff c)
  go_enter Tryz.func88, Tryz.ntmps88
  go_wp2
  all_goals
    go_ret
    exact ⟨iff_ret (by rw [HJ.out]; first | (simp; done) | (simp; omega)), rfl⟩

theorem syl_any (c : Int) (w : World) : Calls Tryz.prog 78 #[.int .i64 c] w fun e w' => e = .returned (.bool (sylB c)) ∧ w = w' := by
  have HJ := Lib.hid (@sylB_iff c)
  go_enter Tryz.func78, Tryz.ntmps78
  go_wp2
  all_goals
    go_ret
    exact ⟨iff_ret (by rw [HJ.out]; first | (simp; done) | (simp; omega)), rfl⟩

set_option maxHeartbeats 1000000 in
theorem jam_any (c : Int) (w : World) : Calls Tryz.prog 93 #[.int .i64 c] w fun e w' => e = .returned (.bool (jamB c)) ∧ w = w' := by
  have HJ := Lib.hid (@jamB_iff c)
  go_enter Tryz.func93, Tryz.ntmps93
  go_wp2
  all_goals
    go_ret
    exact ⟨iff_ret (by rw [HJ.out]; first | (simp; done) | (simp; omega)), rfl⟩

theorem rsyl_any (c : Int) (w : World) : Calls Tryz.prog 110 #[.int .i64 c] w fun e w' => e = .returned (.bool (sylB c)) ∧ w = w' := by
  have HJ := Lib.hid (@sylB_iff c)
  go_enter Tryz.func110, Tryz.ntmps110
  go_wp2
  all_goals
    go_ret
    exact ⟨iff_ret (by rw [HJ.out]; first | (simp; done) | (simp; omega)), rfl⟩

set_option maxHeartbeats 1000000 in
theorem rjam_any (c : Int) (w : World) : Calls Tryz.prog 122 #[.int .i64 c] w fun e w' => e = .returned (.bool (jamB c)) ∧ w = w' := by
  have HJ := Lib.hid (@jamB_iff c)
  go_enter Tryz.func122, Tryz.ntmps122
  go_wp2
  all_goals
    go_ret
    exact ⟨iff_ret (by rw [HJ.out]; first | (simp; done) | (simp; omega)), rfl⟩

set_option maxHeartbeats 1000000 in
theorem rlat_any (c : Int) (w : World) : Calls Tryz.prog 120 #[.int .i64 c] w fun e w' => e = .returned (.bool (latB c)) ∧ w = w' := by
  have HJ := Lib.hid (@latB_iff c)
  go_enter Tryz.func120, Tryz.ntmps120
  go_wp2
  all_goals
    go_ret
    exact ⟨iff_ret (by rw [HJ.out]; first | (simp; done) | (simp; omega)), rfl⟩

theorem scaB_iff {c : Int} : scaB c = true ↔ 0 ≤ c ∧ c ≤ 1114111 ∧ (c < 55296 ∨ 57343 < c) := by
  simp [scaB]; omega

set_option maxHeartbeats 1000000 in
theorem rsca_any (c : Int) (w : World) : Calls Tryz.prog 84 #[.int .i64 c] w fun e w' => e = .returned (.bool (scaB c)) ∧ w = w' := by
  have HJ := Lib.hid (@scaB_iff c)
  go_enter Tryz.func84, Tryz.ntmps84
  go_wp2
  all_goals
    go_ret
    exact ⟨iff_ret (by rw [HJ.out]; first | (simp; done) | (simp; omega)), rfl⟩

theorem resB_iff' {c : Int} : resB c = true ↔ (0 ≤ c ∧ c ≤ 127) ∨ (55296 ≤ c ∧ c ≤ 57343) ∨ sylB c = true ∨ jamB c = true := by
  rw [resB_iff, sylB_iff, jamB_iff]; omega

set_option maxHeartbeats 1000000 in
theorem rres_any (c : Int) (w : World) : Calls Tryz.prog 119 #[.int .i64 c] w fun e w' => e = .returned (.bool (resB c)) ∧ w = w' := by
  have HJ := Lib.hid (@resB_iff' c)
  obtain ⟨S, hS⟩ : ∃ S, sylB c = S := ⟨_, rfl⟩
  obtain ⟨J, hJ⟩ : ∃ J, jamB c = J := ⟨_, rfl⟩
  rw [hS, hJ] at HJ
  have HS := Lib.hid hS
  have HK := Lib.hid hJ
  clear hS hJ
  go_enter Tryz.func119, Tryz.ntmps119
  go_wp2_with (first
    | (go_at_call 110; refine (rsyl_any _ _).mono ?_; rw [HS.out]; rintro e w' ⟨rfl, rfl⟩)
    | (go_at_call 122; refine (rjam_any _ _).mono ?_; rw [HK.out]; rintro e w' ⟨rfl, rfl⟩))
  all_goals
    go_ret
    exact ⟨iff_ret (by rw [HJ.out]; first | (simp; done) | (simp; omega) | (cases S <;> cases J <;> simp_all <;> omega)), rfl⟩

theorem forb_iff {c : Int} : forb c = true ↔ c = 46 ∨ sylB c = true ∨ jamB c = true := by simp [forb]

set_option maxHeartbeats 1000000 in
theorem forb_any (c : Int) (w : World) : Calls Tryz.prog 71 #[.int .i64 c] w fun e w' => e = .returned (.bool (forb c)) ∧ w = w' := by
  have HJ := Lib.hid (@forb_iff c)
  obtain ⟨S, hS⟩ : ∃ S, sylB c = S := ⟨_, rfl⟩
  obtain ⟨J, hJ⟩ : ∃ J, jamB c = J := ⟨_, rfl⟩
  rw [hS, hJ] at HJ
  have HS := Lib.hid hS
  have HK := Lib.hid hJ
  clear hS hJ
  go_enter Tryz.func71, Tryz.ntmps71
  go_wp2_with (first
    | (go_at_call 78; refine (syl_any _ _).mono ?_; rw [HS.out]; rintro e w' ⟨rfl, rfl⟩)
    | (go_at_call 93; refine (jam_any _ _).mono ?_; rw [HK.out]; rintro e w' ⟨rfl, rfl⟩))
  all_goals
    go_ret
    exact ⟨iff_ret (by rw [HJ.out]; first | (simp; done) | (simp; omega) | (cases S <;> cases J <;> simp_all <;> omega)), rfl⟩

theorem resP_iff {c : Int} : resP c = true ↔ resB c = true ∧ lowB c = false ∧ digB c = false ∧ c ≠ 45 := by
  simp [resP, latB, and_assoc]

set_option maxHeartbeats 1000000 in
theorem resP_any (c : Int) (w : World) (hr : Rsv w) : Calls Tryz.prog 62 #[.int .i64 c] w (Gives (.bool (resP c)) w) := by
  have HR := Lib.hid hr
  have HJ := Lib.hid (@resP_iff c)
  obtain ⟨B, hB⟩ : ∃ B, resB c = B := ⟨_, rfl⟩
  obtain ⟨S, hS⟩ : ∃ S, lowB c = S := ⟨_, rfl⟩
  obtain ⟨J, hJ⟩ : ∃ J, digB c = J := ⟨_, rfl⟩
  rw [hB, hS, hJ] at HJ
  have HB := Lib.hid hB
  have HS := Lib.hid hS
  have HK := Lib.hid hJ
  clear hB hS hJ hr
  go_enter Tryz.func62, Tryz.ntmps62
  go_wp2_with fail
  refine (isRes_at c B _ HR.out HB).mono ?_
  rintro e w1 ⟨rfl, hb⟩
  have HB1 := Lib.hid hb
  clear hb
  go_wp2_with (first
    | (go_at_call 87; refine (low_any _ _).mono ?_; rw [HS.out]; rintro e w' ⟨rfl, rfl⟩)
    | (go_at_call 88; refine (dig_any _ _).mono ?_; rw [HK.out]; rintro e w' ⟨rfl, rfl⟩))
  all_goals
    go_ret
    refine ⟨iff_ret ?_, HB1.out⟩
    rw [HJ.out]
    clear HJ HB HS HK HR HB1
    first
      | (simp; done)
      | (simp; omega)
      | (cases B <;> simp_all <;> omega)
      | (cases B <;> cases S <;> simp_all <;> omega)
      | (cases B <;> cases S <;> cases J <;> simp_all <;> omega)

end Go.Proofs.YtiafhifbgdkgaaaGreatDoor
