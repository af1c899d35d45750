/- Tests of a code point: table's and the references'. table: t -/
import Derived.Test.YtopaojjodkoidaaGreatDoorSSmPkB
import Derived.BigGuardPart
set_option linter.unusedSimpArgs false
set_option linter.unusedVariables false
namespace Go.Proofs.YtopaojjodkoidaaGreatDoor
open Go.RowKit
theorem iff_ret {a b : Bool} (h : a = true ↔ b = true) : Ending.returned (.bool a) = .returned (.bool b) := by
 rw [Bool.eq_iff_iff.2 h]
theorem upp_any (c : Int) (w : World) : Calls Tryz.prog 88 #[.int .i64 c] w fun e w' => e = .returned (.bool (uppB c)) ∧ w = w' := by
 have HJ := Lib.hid (@uppB_iff c)
 go_enter Tryz.func88, Tryz.ntmps88
 go_wp2
 all_goals
  go_ret
  exact ⟨iff_ret (by rw [HJ.out]; first | (simp; done) | (simp; omega)), rfl⟩
theorem dig_any (c : Int) (w : World) : Calls Tryz.prog 89 #[.int .i64 c] w fun e w' => e = .returned (.bool (digB c)) ∧ w = w' := by
 have HJ := Lib.hid (@digB_iff c)
 go_enter Tryz.func89, Tryz.ntmps89
 go_wp2
 all_goals
  go_ret
  exact ⟨iff_ret (by rw [HJ.out]; first | (simp; done) | (simp; omega)), rfl⟩
theorem syl_any (c : Int) (w : World) : Calls Tryz.prog 90 #[.int .i64 c] w fun e w' => e = .returned (.bool (sylB c)) ∧ w = w' := by
 have HJ := Lib.hid (@sylB_iff c)
 go_enter Tryz.func90, Tryz.ntmps90
 go_wp2
 all_goals
  go_ret
  exact ⟨iff_ret (by rw [HJ.out]; first | (simp; done) | (simp; omega)), rfl⟩
set_option maxHeartbeats 1000000 in
theorem jam_any (c : Int) (w : World) : Calls Tryz.prog 91 #[.int .i64 c] w fun e w' => e = .returned (.bool (jamB c)) ∧ w = w' := by
 have HJ := Lib.hid (@jamB_iff c)
 go_enter Tryz.func91, Tryz.ntmps91
 go_wp2
 all_goals
  go_ret
  exact ⟨iff_ret (by rw [HJ.out]; first | (simp; done) | (simp; omega)), rfl⟩
theorem rsyl_any (c : Int) (w : World) : Calls Tryz.prog 53 #[.int .i64 c] w fun e w' => e = .returned (.bool (sylB c)) ∧ w = w' := by
 have HJ := Lib.hid (@sylB_iff c)
 go_enter Tryz.func53, Tryz.ntmps53
 go_wp2
 all_goals
  go_ret
  exact ⟨iff_ret (by rw [HJ.out]; first | (simp; done) | (simp; omega)), rfl⟩
set_option maxHeartbeats 1000000 in
theorem rjam_any (c : Int) (w : World) : Calls Tryz.prog 54 #[.int .i64 c] w fun e w' => e = .returned (.bool (jamB c)) ∧ w = w' := by
 have HJ := Lib.hid (@jamB_iff c)
 go_enter Tryz.func54, Tryz.ntmps54
 go_wp2
 all_goals
  go_ret
  exact ⟨iff_ret (by rw [HJ.out]; first | (simp; done) | (simp; omega)), rfl⟩
set_option maxHeartbeats 1000000 in
theorem rlat_any (c : Int) (w : World) : Calls Tryz.prog 71 #[.int .i64 c] w fun e w' => e = .returned (.bool (latB c)) ∧ w = w' := by
 have HJ := Lib.hid (@latB_iff c)
 go_enter Tryz.func71, Tryz.ntmps71
 go_wp2
 all_goals
  go_ret
  exact ⟨iff_ret (by rw [HJ.out]; first | (simp; done) | (simp; omega)), rfl⟩
theorem scaB_iff {c : Int} : scaB c = true ↔ 0 ≤ c ∧ c ≤ 1114111 ∧ (c < 55296 ∨ 57343 < c) := by
 simp [scaB]; omega
set_option maxHeartbeats 1000000 in
theorem rsca_any (c : Int) (w : World) : Calls Tryz.prog 98 #[.int .i64 c] w fun e w' => e = .returned (.bool (scaB c)) ∧ w = w' := by
 have HJ := Lib.hid (@scaB_iff c)
 go_enter Tryz.func98, Tryz.ntmps98
 go_wp2
 all_goals
  go_ret
  exact ⟨iff_ret (by rw [HJ.out]; first | (simp; done) | (simp; omega)), rfl⟩
theorem resB_iff' {c : Int} : resB c = true ↔ (0 ≤ c ∧ c ≤ 127) ∨ (55296 ≤ c ∧ c ≤ 57343) ∨ sylB c = true ∨ jamB c = true := by
 rw [resB_iff, sylB_iff, jamB_iff]; omega
set_option maxHeartbeats 1000000 in
theorem rres_any (c : Int) (w : World) : Calls Tryz.prog 149 #[.int .i64 c] w fun e w' => e = .returned (.bool (resB c)) ∧ w = w' := by
 have HJ := Lib.hid (@resB_iff' c)
 obtain ⟨S, hS⟩ : ∃ S, sylB c = S := ⟨_, rfl⟩
 obtain ⟨J, hJ⟩ : ∃ J, jamB c = J := ⟨_, rfl⟩
 rw [hS, hJ] at HJ
 have HS := Lib.hid hS
 have HK := Lib.hid hJ
 clear hS hJ
 go_enter Tryz.func149, Tryz.ntmps149
 go_wp2_with (first
  | (go_at_call 53; refine (rsyl_any _ _).mono ?_; rw [HS.out]; rintro e w' ⟨rfl, rfl⟩)
  | (go_at_call 54; refine (rjam_any _ _).mono ?_; rw [HK.out]; rintro e w' ⟨rfl, rfl⟩))
 all_goals
  go_ret
  exact ⟨iff_ret (by rw [HJ.out]; first | (simp; done) | (simp; omega) | (cases S <;> cases J <;> simp_all <;> omega)), rfl⟩
theorem forb_iff {c : Int} : forb c = true ↔ c = 46 ∨ sylB c = true ∨ jamB c = true := by simp [forb]
set_option maxHeartbeats 1000000 in
theorem forb_any (c : Int) (w : World) : Calls Tryz.prog 166 #[.int .i64 c] w fun e w' => e = .returned (.bool (forb c)) ∧ w = w' := by
 have HJ := Lib.hid (@forb_iff c)
 obtain ⟨S, hS⟩ : ∃ S, sylB c = S := ⟨_, rfl⟩
 obtain ⟨J, hJ⟩ : ∃ J, jamB c = J := ⟨_, rfl⟩
 rw [hS, hJ] at HJ
 have HS := Lib.hid hS
 have HK := Lib.hid hJ
 clear hS hJ
 go_enter Tryz.func166, Tryz.ntmps166
 go_wp2_with (first
  | (go_at_call 90; refine (syl_any _ _).mono ?_; rw [HS.out]; rintro e w' ⟨rfl, rfl⟩)
  | (go_at_call 91; refine (jam_any _ _).mono ?_; rw [HK.out]; rintro e w' ⟨rfl, rfl⟩))
 all_goals
  go_ret
  exact ⟨iff_ret (by rw [HJ.out]; first | (simp; done) | (simp; omega) | (cases S <;> cases J <;> simp_all <;> omega)), rfl⟩
theorem resP_iff {c : Int} : resP c = true ↔ resB c = true ∧ lowB c = false ∧ digB c = false ∧ c ≠ 45 := by
 simp [resP, latB, and_assoc]
set_option maxHeartbeats 1000000 in
theorem resP_any (c : Int) (w : World) (hr : Rsv w) : Calls Tryz.prog 159 #[.int .i64 c] w (Gives (.bool (resP c)) w) := by
 have HR := Lib.hid hr
 have HJ := Lib.hid (@resP_iff c)
 obtain ⟨B, hB⟩ : ∃ B, resB c = B := ⟨_, rfl⟩
 obtain ⟨S, hS⟩ : ∃ S, lowB c = S := ⟨_, rfl⟩
 obtain ⟨J, hJ⟩ : ∃ J, digB c = J := ⟨_, rfl⟩
 rw [hB, hS, hJ] at HJ
 have HB := Lib.hid hB
 have HS := Lib.hid hS
 have HK := Lib.hid hJ
 clear hB hS hJ hr
 go_enter Tryz.func159, Tryz.ntmps159
 go_wp2_with fail
 refine (isRes_at c B _ HR.out HB).mono ?_
 rintro e w1 ⟨rfl, hb⟩
 have HB1 := Lib.hid hb
 clear hb
 go_wp2_with (first
  | (go_at_call 87; refine (low_any _ _).mono ?_; rw [HS.out]; rintro e w' ⟨rfl, rfl⟩)
  | (go_at_call 89; refine (dig_any _ _).mono ?_; rw [HK.out]; rintro e w' ⟨rfl, rfl⟩))
 all_goals
  go_ret
  refine ⟨iff_ret ?_, HB1.out⟩
  rw [HJ.out]
  clear HJ HB HS HK HR HB1
  first
   | (simp; done)
   | (simp; omega)
   | (cases B <;> simp_all <;> omega)
   | (cases B <;> cases S <;> simp_all <;> omega)
   | (cases B <;> cases S <;> cases J <;> simp_all <;> omega)
abbrev fixV (a b c d : Int) : Value := .agg #[.int .i64 a, .int .i64 b, .int .i64 c, .int .i64 d]
def FixPost (c : Int) (w : World) (e : Ending) (w' : World) : Prop := e = .returned (fixV (fixC c) (fixB c) (fixS c) (fixT c)) ∧ Below w.heap.size w w'
theorem fix_post {c a b s t : Int} {w w' : World} {e : Ending} (he : e = .returned (fixV a b s t)) (h1 : fixC c = a) (h2 : fixB c = b) (h3 : fixS c = s) (h4 : fixT c = t) (hb : Below w.heap.size w w') : FixPost c w e w' := by
 subst he h1 h2 h3 h4; exact ⟨rfl, hb⟩
theorem beqF_iff {c d : Int} : (c == d) = false ↔ ¬ c = d := by simp
theorem beqT_iff {c d : Int} : (c == d) = true ↔ c = d := by simp
set_option maxHeartbeats 4000000 in
theorem fixed_any (c : Int) (w : World) : Calls Tryz.prog 61 #[.int .i64 c] w (FixPost c w) := by
 obtain ⟨L, hL⟩ : ∃ L, lowB c = L := ⟨_, rfl⟩
 obtain ⟨U, hU⟩ : ∃ U, uppB c = U := ⟨_, rfl⟩
 obtain ⟨D, hD⟩ : ∃ D, digB c = D := ⟨_, rfl⟩
 obtain ⟨S, hS⟩ : ∃ S, sylB c = S := ⟨_, rfl⟩
 obtain ⟨J, hJ⟩ : ∃ J, jamB c = J := ⟨_, rfl⟩
 have HL := Lib.hid hL
 have HU := Lib.hid hU
 have HD := Lib.hid hD
 have HS := Lib.hid hS
 have HJ := Lib.hid hJ
 clear hL hU hD hS hJ
 go_enter Tryz.func61, Tryz.ntmps61
 go_wp2_with (first
  | (go_at_call 87; refine (low_any _ _).mono ?_; rw [HL.out]; rintro e w' ⟨rfl, rfl⟩)
  | (go_at_call 88; refine (upp_any _ _).mono ?_; rw [HU.out]; rintro e w' ⟨rfl, rfl⟩)
  | (go_at_call 89; refine (dig_any _ _).mono ?_; rw [HD.out]; rintro e w' ⟨rfl, rfl⟩)
  | (go_at_call 90; refine (syl_any _ _).mono ?_; rw [HS.out]; rintro e w' ⟨rfl, rfl⟩)
  | (go_at_call 91; refine (jam_any _ _).mono ?_; rw [HJ.out]; rintro e w' ⟨rfl, rfl⟩))
 all_goals
  have hl : L = true ↔ (97 ≤ c ∧ c ≤ 122) := by rw [← HL.out]; exact lowB_iff
  have hu : U = true ↔ (65 ≤ c ∧ c ≤ 90) := by rw [← HU.out]; exact uppB_iff
  have hd : D = true ↔ (48 ≤ c ∧ c ≤ 57) := by rw [← HD.out]; exact digB_iff
  have hs : S = true ↔ (44032 ≤ c ∧ c ≤ 55203) := by rw [← HS.out]; exact sylB_iff
  have hj : J = true ↔ ((4352 ≤ c ∧ c ≤ 4370) ∨ (4449 ≤ c ∧ c ≤ 4469) ∨ (4520 ≤ c ∧ c ≤ 4546)) := by rw [← HJ.out]; exact jamB_iff
  clear HL HU HD HS HJ
  first
   | (refine bodyPost_ret (v := fixV 1 0 3 1) ?_ rfl (fix_post rfl ?_ ?_ ?_ ?_ ((Below.refl _ _).alloc (Nat.le_refl _) _))
      ·(simp [results, Tryz.results61, go_sem]; done))
   | (refine bodyPost_ret (v := fixV 1 0 3 3) ?_ rfl (fix_post rfl ?_ ?_ ?_ ?_ ((Below.refl _ _).alloc (Nat.le_refl _) _))
      ·(simp [results, Tryz.results61, go_sem]; done))
   | (refine bodyPost_ret (v := fixV 3 4 1 1) ?_ rfl (fix_post rfl ?_ ?_ ?_ ?_ ((Below.refl _ _).alloc (Nat.le_refl _) _))
      ·(simp [results, Tryz.results61, go_sem]; done))
   | (refine bodyPost_ret (v := fixV 5 5 1 1) ?_ rfl (fix_post rfl ?_ ?_ ?_ ?_ ((Below.refl _ _).alloc (Nat.le_refl _) _))
      ·(simp [results, Tryz.results61, go_sem]; done))
   | (refine bodyPost_ret (v := fixV 5 6 1 1) ?_ rfl (fix_post rfl ?_ ?_ ?_ ?_ ((Below.refl _ _).alloc (Nat.le_refl _) _))
      ·(simp [results, Tryz.results61, go_sem]; done))
   | (refine bodyPost_ret (v := fixV 8 11 1 0) ?_ rfl (fix_post rfl ?_ ?_ ?_ ?_ ((Below.refl _ _).alloc (Nat.le_refl _) _))
      ·(simp [results, Tryz.results61, go_sem]; done))
   | (refine bodyPost_ret (v := fixV 7 11 1 0) ?_ rfl (fix_post rfl ?_ ?_ ?_ ?_ ((Below.refl _ _).alloc (Nat.le_refl _) _))
      ·(simp [results, Tryz.results61, go_sem]; done))
   | (refine bodyPost_ret (v := fixV 5 8 1 0) ?_ rfl (fix_post rfl ?_ ?_ ?_ ?_ ((Below.refl _ _).alloc (Nat.le_refl _) _))
      ·(simp [results, Tryz.results61, go_sem]; done))
   | (refine bodyPost_ret (v := fixV 1 0 9 1) ?_ rfl (fix_post rfl ?_ ?_ ?_ ?_ ((Below.refl _ _).alloc (Nat.le_refl _) _))
      ·(simp [results, Tryz.results61, go_sem]; done))
   | (refine bodyPost_ret (v := fixV 1 0 9 0) ?_ rfl (fix_post rfl ?_ ?_ ?_ ?_ ((Below.refl _ _).alloc (Nat.le_refl _) _))
      ·(simp [results, Tryz.results61, go_sem]; done))
   | (refine bodyPost_ret (v := fixV 0 0 0 0) ?_ rfl (fix_post rfl ?_ ?_ ?_ ?_ ((Below.refl _ _).alloc (Nat.le_refl _) _))
      ·(simp [results, Tryz.results61, go_sem]; done))
  all_goals
   simp_all only [beqT_iff, beqF_iff, Bool.true_eq_false, Bool.false_eq_true, true_iff, false_iff, reduceCtorEq]
   simp only [fixC, fixB, fixS, fixT, latB, Bool.or_eq_true, decide_eq_true_eq, lowB_iff, uppB_iff, digB_iff, sylB_iff, jamB_iff]
   repeat' (first | omega | (exfalso; simp_all; done) | split)
end Go.Proofs.YtopaojjodkoidaaGreatDoor
