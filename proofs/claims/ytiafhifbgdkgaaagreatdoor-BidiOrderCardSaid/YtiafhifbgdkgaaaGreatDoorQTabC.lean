/-
  table: the fixed properties of a code point.
-/
import Derived.Test.YtiafhifbgdkgaaaGreatDoorQTabB
set_option linter.unusedSimpArgs false
set_option linter.unusedVariables false
namespace Go.Proofs.YtiafhifbgdkgaaaGreatDoor
open Go.RowKit
set_option linter.unusedVariables false

abbrev fixV (a b c d : Int) : Value := .agg #[.int .i64 a, .int .i64 b, .int .i64 c, .int .i64 d]
def FixPost (c : Int) (w : World) (e : Ending) (w' : World) : Prop := e = .returned (fixV (fixC c) (fixB c) (fixS c) (fixT c)) ∧ Below w.heap.size w w'

theorem fix_post {c a b s t : Int} {w w' : World} {e : Ending} (he : e = .returned (fixV a b s t)) (h1 : fixC c = a) (h2 : fixB c = b) (h3 : fixS c = s) (h4 : fixT c = t) (hb : Below w.heap.size w w') : FixPost c w e w' := by
  subst he h1 h2 h3 h4; exact ⟨rfl, hb⟩

theorem lowF_iff {c : Int} : lowB c = false ↔ ¬ (97 ≤ c ∧ c ≤ 122) := by rw [← lowB_iff]; simp
theorem uppF_iff {c : Int} : uppB c = false ↔ ¬ (65 ≤ c ∧ c ≤ 90) := by rw [← uppB_iff]; simp
theorem digF_iff {c : Int} : digB c = false ↔ ¬ (48 ≤ c ∧ c ≤ 57) := by rw [← digB_iff]; simp
theorem sylF_iff {c : Int} : sylB c = false ↔ ¬ (44032 ≤ c ∧ c ≤ 55203) := by rw [← sylB_iff]; simp
theorem jamF_iff {c : Int} : jamB c = false ↔ ¬ ((4352 ≤ c ∧ c ≤ 4370) ∨ (4449 ≤ c ∧ c ≤ 4469) ∨ (4520 ≤ c ∧ c ≤ 4546)) := by rw [← jamB_iff, Bool.not_eq_true]
theorem beqF_iff {c d : Int} : (c == d) = false ↔ ¬ c = d := by simp
theorem beqT_iff {c d : Int} : (c == d) = true ↔ c = d := by simp

set_option maxHeartbeats 4000000 in
theorem fixed_any (c : Int) (w : World) : Calls Tryz.prog 82 #[.int .i64 c] w (FixPost c w) := by
  obtain ⟨L, hL⟩ : ∃ L, lowB c = L := ⟨_, rfl⟩
  obtain ⟨U, hU⟩ : ∃ U, uppB c = U := ⟨_, rfl⟩
  obtain ⟨D, hD⟩ : ∃ D, digB c = D := ⟨_, rfl⟩
  obtain ⟨S, hS⟩ : ∃ S, sylB c = S := ⟨_, rfl⟩
  obtain ⟨J, hJ⟩ : ∃ J, jamB c = J := ⟨_, rfl⟩
  have HL := Lib.hid hL
  have HU := Lib.hid hU
  have HD := Lib.hid hD
  have HS := Lib.hid hS
  have HJ := Lib.hid hJ
  clear hL hU hD hS hJ
  go_enter Tryz.func82, Tryz.ntmps82
  go_wp2_with (first
    | (go_at_call 87; refine (low_any _ _).mono ?_; rw [HL.out]; rintro e w' ⟨rfl, rfl⟩)
    | (go_at_call 101; refine (upp_any _ _).mono ?_; rw [HU.out]; rintro e w' ⟨rfl, rfl⟩)
    | (go_at_call 88; refine (dig_any _ _).mono ?_; rw [HD.out]; rintro e w' ⟨rfl, rfl⟩)
    | (go_at_call 78; refine (syl_any _ _).mono ?_; rw [HS.out]; rintro e w' ⟨rfl, rfl⟩)
    | (go_at_call 93; refine (jam_any _ _).mono ?_; rw [HJ.out]; rintro e w' ⟨rfl, rfl⟩))
  all_goals
    have hl : L = true ↔ (97 ≤ c ∧ c ≤ 122) := by rw [← HL.out]; exact lowB_iff
    have hu : U = true ↔ (65 ≤ c ∧ c ≤ 90) := by rw [← HU.out]; exact uppB_iff
    have hd : D = true ↔ (48 ≤ c ∧ c ≤ 57) := by rw [← HD.out]; exact digB_iff
    have hs : S = true ↔ (44032 ≤ c ∧ c ≤ 55203) := by rw [← HS.out]; exact sylB_iff
    have hj : J = true ↔ ((4352 ≤ c ∧ c ≤ 4370) ∨ (4449 ≤ c ∧ c ≤ 4469) ∨ (4520 ≤ c ∧ c ≤ 4546)) := by rw [← HJ.out]; exact jamB_iff
    clear HL HU HD HS HJ
    first
      | (refine bodyPost_ret (v := fixV 1 0 3 1) ?_ rfl (fix_post rfl ?_ ?_ ?_ ?_ ((Below.refl _ _).alloc (Nat.le_refl _) _))
         · (simp [results, Tryz.results82, go_sem]; done))
      | (refine bodyPost_ret (v := fixV 1 0 3 3) ?_ rfl (fix_post rfl ?_ ?_ ?_ ?_ ((Below.refl _ _).alloc (Nat.le_refl _) _))
         · (simp [results, Tryz.results82, go_sem]; done))
      | (refine bodyPost_ret (v := fixV 3 4 1 1) ?_ rfl (fix_post rfl ?_ ?_ ?_ ?_ ((Below.refl _ _).alloc (Nat.le_refl _) _))
         · (simp [results, Tryz.results82, go_sem]; done))
      | (refine bodyPost_ret (v := fixV 5 5 1 1) ?_ rfl (fix_post rfl ?_ ?_ ?_ ?_ ((Below.refl _ _).alloc (Nat.le_refl _) _))
         · (simp [results, Tryz.results82, go_sem]; done))
      | (refine bodyPost_ret (v := fixV 5 6 1 1) ?_ rfl (fix_post rfl ?_ ?_ ?_ ?_ ((Below.refl _ _).alloc (Nat.le_refl _) _))
         · (simp [results, Tryz.results82, go_sem]; done))
      | (refine bodyPost_ret (v := fixV 8 11 1 0) ?_ rfl (fix_post rfl ?_ ?_ ?_ ?_ ((Below.refl _ _).alloc (Nat.le_refl _) _))
         · (simp [results, Tryz.results82, go_sem]; done))
      | (refine bodyPost_ret (v := fixV 7 11 1 0) ?_ rfl (fix_post rfl ?_ ?_ ?_ ?_ ((Below.refl _ _).alloc (Nat.le_refl _) _))
         · (simp [results, Tryz.results82, go_sem]; done))
      | (refine bodyPost_ret (v := fixV 5 8 1 0) ?_ rfl (fix_post rfl ?_ ?_ ?_ ?_ ((Below.refl _ _).alloc (Nat.le_refl _) _))
         · (simp [results, Tryz.results82, go_sem]; done))
      | (refine bodyPost_ret (v := fixV 1 0 9 1) ?_ rfl (fix_post rfl ?_ ?_ ?_ ?_ ((Below.refl _ _).alloc (Nat.le_refl _) _))
         · (simp [results, Tryz.results82, go_sem]; done))
      | (refine bodyPost_ret (v := fixV 1 0 9 0) ?_ rfl (fix_post rfl ?_ ?_ ?_ ?_ ((Below.refl _ _).alloc (Nat.le_refl _) _))
         · (simp [results, Tryz.results82, go_sem]; done))
      | (refine bodyPost_ret (v := fixV 0 0 0 0) ?_ rfl (fix_post rfl ?_ ?_ ?_ ?_ ((Below.refl _ _).alloc (Nat.le_refl _) _))
         · (simp [results, Tryz.results82, go_sem]; done))
    all_goals
      simp_all only [beqT_iff, beqF_iff, Bool.true_eq_false, Bool.false_eq_true, true_iff, false_iff, reduceCtorEq]
      simp only [fixC, fixB, fixS, fixT, latB, Bool.or_eq_true, decide_eq_true_eq, lowB_iff, uppB_iff, digB_iff, sylB_iff, jamB_iff]
      repeat' (first | omega | (exfalso; simp_all; done) | split)

end Go.Proofs.YtiafhifbgdkgaaaGreatDoor
