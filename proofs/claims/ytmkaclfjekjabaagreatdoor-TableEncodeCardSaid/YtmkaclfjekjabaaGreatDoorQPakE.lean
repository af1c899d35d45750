/-
  packed: GetInt.
-/
import Derived.Test.YtmkaclfjekjabaaGreatDoorPkL
import Derived.Deep.QuietTactic
import Derived.BigQuiet
set_option linter.unusedSimpArgs false
set_option linter.unusedVariables false
namespace Go.Proofs.YtmkaclfjekjabaaGreatDoor
open Go.RowKit

theorem p7_pow (k : Nat) : p7 k = 2 ^ (7 * k) := by
  induction k with
  | zero => rfl
  | succ k ih =>
    rw [p7, ih, show 7 * (k + 1) = 7 * k + 7 by omega, Int.pow_add]
    omega

theorem p7_mono {k : Nat} (h : k ≤ 9) : p7 k ≤ 9223372036854775808 := by
  have e : ∀ d k, p7 k ≤ p7 (k + d) := by
    intro d k
    induction d with
    | zero => exact Int.le_refl _
    | succ d ih => have := p7_pos (k + d); rw [show k + (d + 1) = (k + d) + 1 by omega, p7]; omega
  have := e (9 - k) k
  rw [show k + (9 - k) = 9 by omega, p7_9] at this
  exact this

/-- 'u |= uint64(c) << (7 * k)'. -/
theorem or_step (U c : Int) (k : Nat) (h0 : 0 ≤ U) (h1 : U < p7 k) (h2 : 0 ≤ c) (h3 : c ≤ 127) (hk : k ≤ 9) (h9 : k = 9 → c ≤ 1) :
    bits .or .u64 U (IntKind.u64.wrap (c * 2 ^ (7 * k))) = U + c * p7 k := by
  have hp := p7_pos k
  have hm := p7_mono hk
  have hc : c * p7 k < 18446744073709551616 := by
    by_cases h : k = 9
    · have := h9 h
      have hc : c = 0 ∨ c = 1 := by omega
      rcases hc with rfl | rfl <;> omega
    · have h8 : p7 (k + 1) ≤ 9223372036854775808 := p7_mono (by omega)
      rw [p7] at h8
      have : c * p7 k ≤ 128 * p7 k := Int.mul_le_mul_of_nonneg_right (by omega) (by omega)
      omega
  have hc0 : 0 ≤ c * p7 k := Int.mul_nonneg h2 (by omega)
  rw [← p7_pow]
  rw [IntKind.wrap_u64, Int.emod_eq_of_lt hc0 hc]
  refine u64_or_join U (c * p7 k) (7 * k) h0 (by rw [← p7_pow]; exact h1) hc0 hc ?_ (by omega)
  rw [p7_pow]
  exact Int.mul_emod_left _ _

theorem nums_drop (s : ByteArray) (j : Nat) (h : j < s.size) : (nums s).drop j = (s[j].toNat : Int) :: (nums s).drop (j + 1) := by
  have hl : j < (nums s).length := by rw [nums_length]; exact h
  rw [List.drop_eq_getElem_cons hl]
  congr 1
  simp [nums]
  rfl

theorem getS_ok {s : ByteArray} {a : Nat} {U : Int} {n : Nat} (ha : a ≤ s.size) (h : getR 0 0 ((nums s).drop a) = (0, U, n)) : getS s a = (unzz U, (a : Int) + n, 0) := by
  rw [getS, if_neg (by omega), Int.toNat_natCast, h]; rfl

theorem getS_err {s : ByteArray} {a : Nat} {er : Int} (ha : a ≤ s.size) (h : getR 0 0 ((nums s).drop a) = (er, 0, 0)) (he : er ≠ 0) : getS s a = (0, (a : Int), er) := by
  rw [getS, if_neg (by omega), Int.toNat_natCast, h]
  simp only [if_neg he]

theorem getS_out {s : ByteArray} {a : Int} (h : a < 0 ∨ (s.size : Int) < a) : getS s a = (0, a, 3) := by
  rw [getS, if_pos h]

theorem getR_form {k : Nat} {U b : Int} {r : List Int} (h : (k = 9 ∧ b ≠ 1) ∨ (0 < k ∧ b = 0)) (h0 : 0 ≤ b) (hk : k ≤ 9) : getR k U (b :: r) = (4, 0, 0) := by
  rw [getR]
  by_cases h1 : k = 9 ∧ 1 < b
  · rw [if_pos h1]
  · rw [if_neg h1, if_pos (by omega), if_pos (by omega)]

theorem getR_last {k : Nat} {U b : Int} {r : List Int} (h1 : ¬ (k = 9 ∧ b ≠ 1)) (h2 : b < 128) (h3 : ¬ (0 < k ∧ b = 0)) (h0 : 0 ≤ b) : getR k U (b :: r) = (0, U + b * p7 k, k + 1) := by
  rw [getR, if_neg (by omega), if_pos h2, if_neg h3]

theorem getR_more {k : Nat} {U b : Int} {r : List Int} (h1 : k ≠ 9) (h2 : 128 ≤ b) : getR k U (b :: r) = getR (k + 1) (U + (b - 128) * p7 k) r := by
  rw [getR, if_neg (by omega), if_neg (by omega)]

theorem acc_bd {k : Nat} {U c : Int} (h1 : U < p7 k) (h3 : c ≤ 127) : U + c * p7 k < p7 (k + 1) := by
  have hp := p7_pos k
  have : c * p7 k ≤ 127 * p7 k := Int.mul_le_mul_of_nonneg_right h3 (by omega)
  rw [p7]; omega

theorem acc_u {k : Nat} {U c : Int} (h0 : 0 ≤ U) (h1 : U < p7 k) (h2 : 0 ≤ c) (h3 : c ≤ 127) (hk : k ≤ 9) (h9 : k = 9 → c ≤ 1) : 0 ≤ U + c * p7 k ∧ IsU (U + c * p7 k) := by
  have hp := p7_pos k
  have hm := p7_mono hk
  have hc0 : 0 ≤ c * p7 k := Int.mul_nonneg h2 (by omega)
  refine ⟨by omega, ?_⟩
  unfold IsU
  by_cases h : k = 9
  · have := h9 h
    have hc : c = 0 ∨ c = 1 := by omega
    rcases hc with rfl | rfl <;> omega
  · have h8 : p7 (k + 1) ≤ 9223372036854775808 := p7_mono (by omega)
    have := acc_bd h1 h3
    omega

/-- What GetInt leaves: the world, but for draws. -/
def GetPost (v i er : Int) (w : World) (e : Ending) (w' : World) : Prop :=
  e = .returned (.tuple #[.int .i64 v, .int .i64 i, .int .i64 er]) ∧ ∃ m, w' = w.drewN m

set_option maxHeartbeats 400000 in
theorem getInt_out (s : ByteArray) (a v i er : Int) (w : World) (hs : s.size ≤ maxLen) (h : a < 0 ∨ (s.size : Int) < a) (hE : Hid (getS s a = (v, i, er))) :
    Calls Tryz.prog 175 #[.string s, .int .i64 a] w (GetPost v i er w) := by
  unfold maxLen at hs
  have hE' := hE.out
  rw [getS_out h] at hE'
  injection hE' with e1 e2
  injection e2 with e2 e3
  subst e1; subst e2; subst e3
  by_cases h0 : a < 0
  · clear h
    go_enter Tryz.func175, Tryz.ntmps175
    go_wp2
    go_ret3
    exact ⟨rfl, 0, rfl⟩
  · have h1 : (s.size : Int) < a := by omega
    have h2 : decide (a < 0) = false := decide_eq_false h0
    clear h
    go_enter Tryz.func175, Tryz.ntmps175
    go_wp2
    go_ret3
    exact ⟨rfl, 0, rfl⟩

set_option maxRecDepth 100000 in
set_option maxHeartbeats 2000000 in
theorem getInt_in (s : ByteArray) (a : Nat) (v i er : Int) (w : World) (hs : s.size ≤ maxLen) (h : a ≤ s.size) (hE : Hid (getS s a = (v, i, er))) :
    Calls Tryz.prog 175 #[.string s, .int .i64 a] w (GetPost v i er w) := by
  unfold maxLen at hs
  have h2 : decide ((a : Int) < 0) = false := by simp
  go_enter Tryz.func175, Tryz.ntmps175
  go_wp2
  go_loopw [7, 8] (fun uu iv wr => ∃ (p k : Nat) (U : Int), k ≤ 9 ∧ p ≤ s.size ∧ p ≤ a + k ∧ a + k ≤ p ∧ iv = .int .i64 p ∧ uu = .int .u64 U ∧ 0 ≤ U ∧ Hid (U < p7 k) ∧ Hid (getR 0 0 ((nums s).drop a) = getR k U ((nums s).drop p)) ∧ Hid (∃ m, wr = w.drewN m)) (fun _ iv _ => s.size - (intOf iv).toNat)
  case atStart => exact ⟨a, 0, 0, by omega, h, by omega, by omega, rfl, rfl, by omega, by unfold Hid; decide, rfl, 0, rfl⟩
  case round =>
    obtain ⟨p, k, U, hk9, hps, hp1, hp2, rfl, rfl, hU0, hU, hR, hW⟩ := hrel
    by_cases hlt : p < s.size
    · have hnd := nums_drop s p hlt
      obtain ⟨b, hb⟩ : ∃ b : Int, (s[p].toNat : Int) = b := ⟨_, rfl⟩
      have hb0 : 0 ≤ b := by omega
      have hb1 : b ≤ 255 := by have := s[p].toNat_lt; omega
      have hR2 := hR.out
      rw [hnd, hb] at hR2
      have HR := Lib.hid hR2
      have hsub : IntKind.i64.wrap ((p : Int) - (a : Int)) = (k : Int) := by rw [IntWalk.i64_in _ (by omega)]; omega
      clear hnd hR hR2 h2
      go_upto_region 7 with (fail)
      go_quiet (fail)
      generalize hwq : World.drewN wr _ = wq
      have HW : Hid (∃ m, wq = w.drewN m) := by obtain ⟨m, hm⟩ := hW.out; exact ⟨m + _, by rw [← hwq, hm, World.drewN_drewN]⟩
      clear hwq hsub hb
      obtain ⟨c, hc⟩ : ∃ c, b % 128 = c := ⟨_, rfl⟩
      have hc0 : 0 ≤ c := by omega
      have hc1 : c ≤ 127 := by omega
      by_cases hA : k = 9 ∧ b ≠ 1
      · have hb1' : ((k : Int) == 9) = true := by simp; omega
        have hb2' : (b != 1) = true := by simp [hA.2]
        have hf := HR.out
        rw [getR_form (.inl hA) hb0 hk9] at hf
        have hE' := hE.out
        rw [getS_err h hf (by omega)] at hE'
        injection hE' with e1 e2
        injection e2 with e2 e3
        subst e1; subst e2; subst e3
        clear hA HR hf hc
        go_wp2
        go_ret3
        exact ⟨rfl, HW.out⟩
      · have hor : bits .or .u64 U (IntKind.u64.wrap (c * 2 ^ (7 * k))) = U + c * p7 k := or_step U c k hU0 hU.out hc0 hc1 hk9 (by omega)
        obtain ⟨V0, V1⟩ := acc_u hU0 hU.out hc0 hc1 hk9 (by omega)
        have hbd : U + c * p7 k < p7 (k + 1) := acc_bd hU.out hc1
        by_cases hB : 128 ≤ b
        · have hk : k ≠ 9 := by omega
          have hb1' : ((k : Int) == 9) = false := by simp; omega
          have hm := HR.out
          rw [getR_more hk hB, show b - 128 = c by omega] at hm
          obtain ⟨V, hV⟩ : ∃ V, U + c * p7 k = V := ⟨_, rfl⟩
          rw [hV] at hor V0 V1 hm hbd
          have HM := Lib.hid hm
          have HBD := Lib.hid hbd
          clear hA HR hm hbd hV V1
          go_wp2
          go_roundw
          case rel => exact ⟨p + 1, k + 1, V, by omega, by omega, by omega, by omega, by go_num, rfl, V0, HBD, HM, HW⟩
          case measure => simp [intOf]; omega
        · have hB2 : b < 128 := by omega
          have hbc : b % 128 = b := by omega
          obtain rfl : b = c := by omega
          by_cases hC : 0 < k ∧ b = 0
          · have hb1' : ((k : Int) == 9) = false := by simp; omega
            have hb2' : (b == 0) = true := by simp [hC.2]
            have hb3' : decide (0 < k) = true := by simp [hC.1]
            have hf := HR.out
            rw [getR_form (.inr hC) hb0 hk9] at hf
            have hE' := hE.out
            rw [getS_err h hf (by omega)] at hE'
            injection hE' with e1 e2
            injection e2 with e2 e3
            subst e1; subst e2; subst e3
            obtain ⟨hC1, hC2⟩ := hC
            obtain ⟨V, hV⟩ : ∃ V, U + b * p7 k = V := ⟨_, rfl⟩
            rw [hV] at hor
            clear hA HR hf hc hC2 V0 V1 hbd hV
            go_wp2
            go_ret3
            exact ⟨rfl, HW.out⟩
          · have hl := HR.out
            rw [getR_last hA hB2 hC hb0] at hl
            have hE' := hE.out
            rw [getS_ok h hl] at hE'
            injection hE' with e1 e2
            injection e2 with e2 e3
            subst e3
            have HI : Hid ((p : Int) + 1 = i) := by unfold Hid; omega
            obtain ⟨V, hV⟩ : ∃ V, U + b * p7 k = V := ⟨_, rfl⟩
            rw [hV] at hor V0 V1 e1
            have HZ := Lib.hid e1
            have hcase : (((k : Int) == 9) = false ∨ (((k : Int) == 9) = true ∧ (b != 1) = false)) ∧ ((b == 0) = false ∨ ((b == 0) = true ∧ decide (0 < k) = false)) := by
              constructor
              · by_cases h9 : k = 9
                · exact .inr ⟨by simp; omega, by simp; omega⟩
                · exact .inl (by simp; omega)
              · by_cases h0 : b = 0
                · exact .inr ⟨by simp [h0], by simp; omega⟩
                · exact .inl (by simp [h0])
            clear hA hC HR hl hc hbd hV e1 e2
            obtain ⟨hca, hcb⟩ := hcase
            rcases hca with hca | ⟨hca, hca2⟩ <;> rcases hcb with hcb | ⟨hcb, hcb2⟩
            all_goals
              go_wp2_with (go_at_call 177; refine (signed_at _ _ _ V0 V1 HZ).mono ?_; rintro e w1 ⟨rfl, rfl⟩)
              go_ret3
              rw [HI.out]
              exact ⟨rfl, HW.out⟩
    · obtain rfl : p = s.size := by omega
      have HE : Hid ((0, (a : Int), 5) = (v, i, er)) := by
        have h5 := hR.out
        have hd : (nums s).drop s.size = [] := List.drop_of_length_le (by rw [nums_length]; exact Nat.le_refl _)
        rw [hd] at h5
        unfold Hid
        rw [← hE.out, getS_err h h5 (by omega)]
      clear hR
      go_wp2
      have hE' := HE.out
      injection hE' with e1 e2
      injection e2 with e2 e3
      subst e1; subst e2; subst e3
      go_ret3
      exact ⟨rfl, hW.out⟩

theorem getInt_any (s : ByteArray) (a v i er : Int) (w : World) (hs : s.size ≤ maxLen) (hE : Hid (getS s a = (v, i, er))) :
    Calls Tryz.prog 175 #[.string s, .int .i64 a] w (GetPost v i er w) := by
  by_cases h : a < 0 ∨ (s.size : Int) < a
  · exact getInt_out s a v i er w hs h hE
  · obtain ⟨n, rfl⟩ : ∃ n : Nat, a = n := ⟨a.toNat, by omega⟩
    exact getInt_in s n v i er w hs (by omega) hE

end Go.Proofs.YtmkaclfjekjabaaGreatDoor
