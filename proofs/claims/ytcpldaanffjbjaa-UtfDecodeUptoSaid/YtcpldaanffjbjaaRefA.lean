/-
  The contracts of the references of utf: Scalar, Length, one.
-/
import Derived.Test.YtcpldaanffjbjaaOwn
import Derived.Test.YtcpldaanffjbjaaUtfSpec2
import Derived.BigQuiet
namespace Go.Proofs.Ytcpldaanffjbjaa
open Go.RowKit

set_option maxHeartbeats 400000 in
theorem scalar_any (c : Int) (w : World) :
    Calls Try.prog 16 #[.int .i64 c] w fun e w' => e = .returned (.bool (!(lenS c == 0))) ∧ w = w' := by
  by_cases h1 : c < 0
  · have e : lenS c = 0 := by unfold lenS; omega
    go_enter Try.func16, Try.ntmps16
    go_wp2
    go_ret
    exact ⟨rfl, rfl⟩
  by_cases h2 : 1114111 < c
  · have e : lenS c = 0 := by unfold lenS; omega
    go_enter Try.func16, Try.ntmps16
    go_wp2
    go_ret
    exact ⟨rfl, rfl⟩
  by_cases h3 : c < 55296
  · have e : (lenS c == 0) = false := by unfold lenS; simp; omega
    go_enter Try.func16, Try.ntmps16
    go_wp2
    go_ret
    exact ⟨rfl, rfl⟩
  by_cases h4 : 57343 < c
  · have e : (lenS c == 0) = false := by unfold lenS; simp; omega
    go_enter Try.func16, Try.ntmps16
    go_wp2
    go_ret
    exact ⟨rfl, rfl⟩
  · have e : lenS c = 0 := by unfold lenS; omega
    go_enter Try.func16, Try.ntmps16
    go_wp2
    go_ret
    exact ⟨rfl, rfl⟩

theorem scalar_at (c : Int) (b : Bool) (w : World) (h : Hid ((!(lenS c == 0)) = b)) :
    Calls Try.prog 16 #[.int .i64 c] w fun e w' => e = .returned (.bool b) ∧ w = w' := h.out ▸ scalar_any c w

set_option maxHeartbeats 400000 in
theorem refLength_any (c : Int) (w : World) :
    Calls Try.prog 15 #[.int .i64 c] w fun e w' => e = .returned (.int .i64 (lenS c)) ∧ w = w' := by
  by_cases h : lenS c = 0
  · have HS : Hid ((!(lenS c == 0)) = false) := by simp [Hid, h]
    rw [h]
    clear h
    go_enter Try.func15, Try.ntmps15
    go_wp2_with (go_at_call 16; refine (scalar_at _ _ _ HS).mono ?_; rintro e w' ⟨rfl, rfl⟩)
    go_ret
    exact ⟨rfl, rfl⟩
  · have HS : Hid ((!(lenS c == 0)) = true) := by simp [Hid, h]
    have hb : lenS c = if c ≤ 127 then 1 else if c ≤ 2047 then 2 else if c ≤ 65535 then 3 else 4 := by unfold lenS at *; omega
    rw [hb]
    clear hb h
    go_enter Try.func15, Try.ntmps15
    go_wp2_with (go_at_call 16; refine (scalar_at _ _ _ HS).mono ?_; rintro e w' ⟨rfl, rfl⟩)
    all_goals
      go_ret
      exact ⟨rfl, rfl⟩

set_option maxHeartbeats 400000 in
theorem one_1 (c : Int) (w : World) (h0 : 0 ≤ c) (h1 : c ≤ 127) :
    Calls Try.prog 24 #[.int .i64 c] w fun e w' => e = .returned (.string (strOfNums [c])) ∧ Below w.heap.size w w' := by
  have hl1 : ((lenS c : Int) == 1) = true := by unfold lenS; simp; omega
  have e0 : (c) % 256 = c := by omega
  have hcv := conv_lit w #[.int .u8 (c)] [c] 1 rfl rfl
  obtain ⟨X, hX⟩ : ∃ X, strOfNums [c] = X := ⟨_, rfl⟩
  rw [hX] at hcv ⊢
  clear hX
  go_enter Try.func24, Try.ntmps24
  go_wp2_with (go_at_call 15; refine (refLength_any _ _).mono ?_; rintro e w' ⟨rfl, rfl⟩)
  go_ret
  exact ⟨rfl, (Below.refl _ _).alloc (Nat.le_refl _) _⟩

set_option maxHeartbeats 400000 in
theorem one_2 (c : Int) (w : World) (h0 : 128 ≤ c) (h1 : c ≤ 2047) :
    Calls Try.prog 24 #[.int .i64 c] w fun e w' => e = .returned (.string (strOfNums [192 + c / 64, 128 + c % 64])) ∧ Below w.heap.size w w' := by
  have hl1 : ((lenS c : Int) == 1) = false := by unfold lenS; simp; omega
  have hl2 : ((lenS c : Int) == 2) = true := by unfold lenS; simp; omega
  have e0 : (192 + c / 64) % 256 = 192 + c / 64 := by omega
  have e1 : (128 + c % 64) % 256 = 128 + c % 64 := by omega
  have hcv := conv_lit w #[.int .u8 (192 + c / 64), .int .u8 (128 + c % 64)] [192 + c / 64, 128 + c % 64] 2 rfl rfl
  obtain ⟨X, hX⟩ : ∃ X, strOfNums [192 + c / 64, 128 + c % 64] = X := ⟨_, rfl⟩
  rw [hX] at hcv ⊢
  clear hX
  go_enter Try.func24, Try.ntmps24
  go_wp2_with (go_at_call 15; refine (refLength_any _ _).mono ?_; rintro e w' ⟨rfl, rfl⟩)
  go_ret
  exact ⟨rfl, (Below.refl _ _).alloc (Nat.le_refl _) _⟩

set_option maxHeartbeats 400000 in
theorem one_3 (c : Int) (w : World) (h0 : 2048 ≤ c) (h1 : c ≤ 65535) (h2 : ¬ (55296 ≤ c ∧ c ≤ 57343)) :
    Calls Try.prog 24 #[.int .i64 c] w fun e w' => e = .returned (.string (strOfNums [224 + c / 4096, 128 + c / 64 % 64, 128 + c % 64])) ∧ Below w.heap.size w w' := by
  have hl1 : ((lenS c : Int) == 1) = false := by unfold lenS; simp; omega
  have hl2 : ((lenS c : Int) == 2) = false := by unfold lenS; simp; omega
  have hl3 : ((lenS c : Int) == 3) = true := by unfold lenS; simp; omega
  have e0 : (224 + c / 4096) % 256 = 224 + c / 4096 := by omega
  have e1 : (128 + c / 64 % 64) % 256 = 128 + c / 64 % 64 := by omega
  have e2 : (128 + c % 64) % 256 = 128 + c % 64 := by omega
  have hcv := conv_lit w #[.int .u8 (224 + c / 4096), .int .u8 (128 + c / 64 % 64), .int .u8 (128 + c % 64)] [224 + c / 4096, 128 + c / 64 % 64, 128 + c % 64] 3 rfl rfl
  clear h2
  obtain ⟨X, hX⟩ : ∃ X, strOfNums [224 + c / 4096, 128 + c / 64 % 64, 128 + c % 64] = X := ⟨_, rfl⟩
  rw [hX] at hcv ⊢
  clear hX
  go_enter Try.func24, Try.ntmps24
  go_wp2_with (go_at_call 15; refine (refLength_any _ _).mono ?_; rintro e w' ⟨rfl, rfl⟩)
  go_ret
  exact ⟨rfl, (Below.refl _ _).alloc (Nat.le_refl _) _⟩

set_option maxHeartbeats 400000 in
theorem one_4 (c : Int) (w : World) (h0 : 65536 ≤ c) (h1 : c ≤ 1114111) :
    Calls Try.prog 24 #[.int .i64 c] w fun e w' => e = .returned (.string (strOfNums [240 + c / 262144, 128 + c / 4096 % 64, 128 + c / 64 % 64, 128 + c % 64])) ∧ Below w.heap.size w w' := by
  have hl1 : ((lenS c : Int) == 1) = false := by unfold lenS; simp; omega
  have hl2 : ((lenS c : Int) == 2) = false := by unfold lenS; simp; omega
  have hl3 : ((lenS c : Int) == 3) = false := by unfold lenS; simp; omega
  have e0 : (240 + c / 262144) % 256 = 240 + c / 262144 := by omega
  have e1 : (128 + c / 4096 % 64) % 256 = 128 + c / 4096 % 64 := by omega
  have e2 : (128 + c / 64 % 64) % 256 = 128 + c / 64 % 64 := by omega
  have e3 : (128 + c % 64) % 256 = 128 + c % 64 := by omega
  have hcv := conv_lit w #[.int .u8 (240 + c / 262144), .int .u8 (128 + c / 4096 % 64), .int .u8 (128 + c / 64 % 64), .int .u8 (128 + c % 64)] [240 + c / 262144, 128 + c / 4096 % 64, 128 + c / 64 % 64, 128 + c % 64] 4 rfl rfl
  obtain ⟨X, hX⟩ : ∃ X, strOfNums [240 + c / 262144, 128 + c / 4096 % 64, 128 + c / 64 % 64, 128 + c % 64] = X := ⟨_, rfl⟩
  rw [hX] at hcv ⊢
  clear hX
  go_enter Try.func24, Try.ntmps24
  go_wp2_with (go_at_call 15; refine (refLength_any _ _).mono ?_; rintro e w' ⟨rfl, rfl⟩)
  go_ret
  exact ⟨rfl, (Below.refl _ _).alloc (Nat.le_refl _) _⟩

theorem one_any (c : Int) (w : World) (hc : lenS c ≠ 0) :
    Calls Try.prog 24 #[.int .i64 c] w fun e w' => e = .returned (.string (strOfNums (encB c))) ∧ Below w.heap.size w w' := by
  unfold lenS at hc
  unfold encB
  split
  · exact one_1 c w (by omega) (by omega)
  split
  · exact one_2 c w (by omega) (by omega)
  split
  · exact one_3 c w (by omega) (by omega) (by omega)
  · exact one_4 c w (by omega) (by omega)

end Go.Proofs.Ytcpldaanffjbjaa
