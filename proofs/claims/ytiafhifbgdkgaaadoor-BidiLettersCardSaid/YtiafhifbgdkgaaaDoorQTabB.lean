/-
  Tests of a code point: table's and the references'.
-/
import Derived.Test.YtiafhifbgdkgaaaDoorPkB
import Derived.BigGuardPart
set_option linter.unusedSimpArgs false
set_option linter.unusedVariables false
namespace Go.Proofs.YtiafhifbgdkgaaaDoor
open Go.RowKit
set_option linter.unusedVariables false

theorem iff_ret {a b : Bool} (h : a = true ↔ b = true) : Ending.returned (.bool a) = .returned (.bool b) := by
  rw [Bool.eq_iff_iff.2 h]

theorem upp_any (c : Int) (w : World) : Calls Tryd.prog 78 #[.int .i64 c] w fun e w' => e = .returned (.bool (uppB c)) ∧ w = w' := by
  have HJ := Lib.hid (@uppB_iff c)
  go_enter Tryd.func78, Tryd.ntmps78
  go_wp2
  all_goals
    go_ret
    exact ⟨iff_ret (by rw [HJ.out]; first | (simp; done) | (simp; omega)), rfl⟩

theorem dig_any (c : Int) (w : World) : Calls Tryd.prog 79 #[.int .i64 c] w fun e w' => e = .returned (.bool (digB c)) ∧ w = w' := by
  have HJ := Lib.hid (@digB_iff c)
  go_enter Tryd.func79, Tryd.ntmps79
  go_wp2
  all_goals
    go_ret
    exact ⟨iff_ret (by rw [HJ.out]; first | (simp; done) | (simp; omega)), rfl⟩

theorem syl_any (c : Int) (w : World) : Calls Tryd.prog 73 #[.int .i64 c] w fun e w' => e = .returned (.bool (sylB c)) ∧ w = w' := by
  have HJ := Lib.hid (@sylB_iff c)
  go_enter Tryd.func73, Tryd.ntmps73
  go_wp2
  all_goals
    go_ret
    exact ⟨iff_ret (by rw [HJ.out]; first | (simp; done) | (simp; omega)), rfl⟩

set_option maxHeartbeats 1000000 in
theorem jam_any (c : Int) (w : World) : Calls Tryd.prog 80 #[.int .i64 c] w fun e w' => e = .returned (.bool (jamB c)) ∧ w = w' := by
  have HJ := Lib.hid (@jamB_iff c)
  go_enter Tryd.func80, Tryd.ntmps80
  go_wp2
  all_goals
    go_ret
    exact ⟨iff_ret (by rw [HJ.out]; first | (simp; done) | (simp; omega)), rfl⟩

theorem scaB_iff {c : Int} : scaB c = true ↔ 0 ≤ c ∧ c ≤ 1114111 ∧ (c < 55296 ∨ 57343 < c) := by
  simp [scaB]; omega

theorem resB_iff' {c : Int} : resB c = true ↔ (0 ≤ c ∧ c ≤ 127) ∨ (55296 ≤ c ∧ c ≤ 57343) ∨ sylB c = true ∨ jamB c = true := by
  rw [resB_iff, sylB_iff, jamB_iff]; omega

theorem forb_iff {c : Int} : forb c = true ↔ c = 46 ∨ sylB c = true ∨ jamB c = true := by simp [forb]

set_option maxHeartbeats 1000000 in
theorem forb_any (c : Int) (w : World) : Calls Tryd.prog 66 #[.int .i64 c] w fun e w' => e = .returned (.bool (forb c)) ∧ w = w' := by
  have HJ := Lib.hid (@forb_iff c)
  obtain ⟨S, hS⟩ : ∃ S, sylB c = S := ⟨_, rfl⟩
  obtain ⟨J, hJ⟩ : ∃ J, jamB c = J := ⟨_, rfl⟩
  rw [hS, hJ] at HJ
  have HS := Lib.hid hS
  have HK := Lib.hid hJ
  clear hS hJ
  go_enter Tryd.func66, Tryd.ntmps66
  go_wp2_with (first
    | (go_at_call 73; refine (syl_any _ _).mono ?_; rw [HS.out]; rintro e w' ⟨rfl, rfl⟩)
    | (go_at_call 80; refine (jam_any _ _).mono ?_; rw [HK.out]; rintro e w' ⟨rfl, rfl⟩))
  all_goals
    go_ret
    exact ⟨iff_ret (by rw [HJ.out]; first | (simp; done) | (simp; omega) | (cases S <;> cases J <;> simp_all <;> omega)), rfl⟩

theorem resP_iff {c : Int} : resP c = true ↔ resB c = true ∧ lowB c = false ∧ digB c = false ∧ c ≠ 45 := by
  simp [resP, latB, and_assoc]

set_option maxHeartbeats 1000000 in
theorem resP_any (c : Int) (w : World) (hr : Rsv w) : Calls Tryd.prog 57 #[.int .i64 c] w (Gives (.bool (resP c)) w) := by
  have HR := Lib.hid hr
  have HJ := Lib.hid (@resP_iff c)
  obtain ⟨B, hB⟩ : ∃ B, resB c = B := ⟨_, rfl⟩
  obtain ⟨S, hS⟩ : ∃ S, lowB c = S := ⟨_, rfl⟩
  obtain ⟨J, hJ⟩ : ∃ J, digB c = J := ⟨_, rfl⟩
  rw [hB, hS, hJ] at HJ
  have HB := Lib.hid hB
  have HS := Lib.hid hS
  have HK := Lib.hid hJ
  clear hB hS hJ hr
  go_enter Tryd.func57, Tryd.ntmps57
  go_wp2_with fail
  refine (isRes_at c B _ HR.out HB).mono ?_
  rintro e w1 ⟨rfl, hb⟩
  have HB1 := Lib.hid hb
  clear hb
  go_wp2_with (first
    | (go_at_call 77; refine (low_any _ _).mono ?_; rw [HS.out]; rintro e w' ⟨rfl, rfl⟩)
    | (go_at_call 79; refine (dig_any _ _).mono ?_; rw [HK.out]; rintro e w' ⟨rfl, rfl⟩))
  all_goals
    go_ret
    refine ⟨iff_ret ?_, HB1.out⟩
    rw [HJ.out]
    clear HJ HB HS HK HR HB1
    first
      | (simp; done)
      | (simp; omega)
      | (cases B <;> simp_all <;> omega)
      | (cases B <;> cases S <;> simp_all <;> omega)
      | (cases B <;> cases S <;> cases J <;> simp_all <;> omega)

end Go.Proofs.YtiafhifbgdkgaaaDoor
