/-
  The reference GetInt.
-/
import Derived.Test.YtimabgaobhfiaaaPakE
namespace Go.Proofs.Ytimabgaobhfiaaa
open Go.RowKit

theorem u8_and127 (b : Int) (h0 : 0 ≤ b) (h1 : b < 256) : bits .and .u8 b 127 = b % 128 := by
  have hw : ∀ n : Int, 0 ≤ n → n < 2 ^ 8 → IntKind.u8.wrap n = n := by intro n a c; rw [IntKind.wrap_u8]; omega
  have h := bits_mask .u8 8 (by decide) hw 7 (by decide) b h0 (by omega)
  simpa using h

/-- How the reference ends: 'v := int(u >> 1); if u&1 == 1 { v = ^v }'. -/
theorem last_ways (V v : Int) (h0 : 0 ≤ V) (h1 : IsU V) (hv : unzz V = v) :
    ((bits .and .u64 V 1 == 1) = false ∧ wrap64 (V / 2) = v) ∨ ((bits .and .u64 V 1 == 1) = true ∧ bits .xor .i64 (-1) (wrap64 (V / 2)) = v) := by
  by_cases h : V % 2 = 0
  · exact .inl ⟨even_test V h0 h1 h, by rw [unzz_words_even V h0 h1 h, hv]⟩
  · exact .inr ⟨odd_test V h0 h1 h, by rw [unzz_words_odd V h0 h1 h, hv]⟩

def RGetPost (v i er : Int) (w : World) (e : Ending) (w' : World) : Prop :=
  e = .returned (.tuple #[.int .i64 v, .int .i64 i, .int .i64 er]) ∧ w = w'

set_option maxHeartbeats 400000 in
theorem rgetInt_out (s : ByteArray) (a v i er : Int) (w : World) (hs : s.size ≤ maxLen) (h : a < 0 ∨ (s.size : Int) < a) (hE : Hid (getS s a = (v, i, er))) :
    Calls Try.prog 28 #[.string s, .int .i64 a] w (RGetPost v i er w) := by
  unfold maxLen at hs
  have hE' := hE.out
  rw [getS_out h] at hE'
  injection hE' with e1 e2
  injection e2 with e2 e3
  subst e1; subst e2; subst e3
  by_cases h0 : a < 0
  · clear h
    go_enter Try.func28, Try.ntmps28
    go_wp2
    go_ret3
    exact ⟨rfl, rfl⟩
  · have h1 : (s.size : Int) < a := by omega
    have h2 : decide (a < 0) = false := decide_eq_false h0
    clear h
    go_enter Try.func28, Try.ntmps28
    go_wp2
    go_ret3
    exact ⟨rfl, rfl⟩

set_option maxRecDepth 100000 in
set_option maxHeartbeats 4000000 in
theorem rgetInt_in (s : ByteArray) (a : Nat) (v i er : Int) (w : World) (hs : s.size ≤ maxLen) (h : a ≤ s.size) (hE : Hid (getS s a = (v, i, er))) :
    Calls Try.prog 28 #[.string s, .int .i64 a] w (RGetPost v i er w) := by
  unfold maxLen at hs
  have h2 : decide ((a : Int) < 0) = false := by simp
  have HZ : Hid (s.size + 20 ≤ 9223372036854775807 ∨ True) := .inr trivial
  go_enter Try.func28, Try.ntmps28
  go_wp2
  go_loop [7, 8] (fun uu kv => ∃ (k : Nat) (U : Int), k ≤ 9 ∧ a + k ≤ s.size ∧ kv = .int .i64 k ∧ uu = .int .u64 U ∧ 0 ≤ U ∧ Hid (U < p7 k) ∧ Hid (getR 0 0 ((nums s).drop a) = getR k U ((nums s).drop (a + k)))) (fun _ kv => 10 - (intOf kv).toNat)
  case atStart => exact ⟨0, 0, by omega, by omega, rfl, rfl, by omega, by unfold Hid; decide, rfl⟩
  case round =>
    obtain ⟨k, U, hk9, hks, rfl, rfl, hU0, hU, hR⟩ := hrel
    obtain ⟨p, hp⟩ : ∃ p, a + k = p := ⟨_, rfl⟩
    rw [hp] at hR hks
    have hpi : (a : Int) + (k : Int) = (p : Int) := by omega
    have HP := Lib.hid hp
    clear hp h2
    by_cases hlt : p < s.size
    · have hnd := nums_drop s p hlt
      obtain ⟨b, hb⟩ : ∃ b : Int, (s[p].toNat : Int) = b := ⟨_, rfl⟩
      have hb0 : 0 ≤ b := by omega
      have hb1 : b ≤ 255 := by have := s[p].toNat_lt; omega
      have hR2 := hR.out
      rw [hnd, hb] at hR2
      have HR := Lib.hid hR2
      clear hnd hR hR2
      obtain ⟨c, hc⟩ : ∃ c, b % 128 = c := ⟨_, rfl⟩
      have hc0 : 0 ≤ c := by omega
      have hc1 : c ≤ 127 := by omega
      have hmask := u8_and127 b hb0 (by omega)
      rw [hc] at hmask
      by_cases hA : k = 9 ∧ b ≠ 1
      · have hf := HR.out
        rw [getR_form (.inl hA) hb0 hk9] at hf
        have hE' := hE.out
        rw [getS_err h hf (by omega)] at hE'
        injection hE' with e1 e2
        injection e2 with e2 e3
        subst e1; subst e2; subst e3
        have hb1' : ((k : Int) == 9) = true := by simp; omega
        by_cases hA2 : 1 < b
        · clear hA HR hf hc hmask
          go_wp2
          go_ret3
          exact ⟨rfl, rfl⟩
        · obtain rfl : b = 0 := by omega
          obtain rfl : c = 0 := by omega
          have hd : decide ((1 : Int) < 0) = false := rfl
          have hor : bits .or .u64 U (IntKind.u64.wrap (0 * 2 ^ (7 * k))) = U + 0 * p7 k := or_step U 0 k hU0 hU.out (by omega) (by omega) hk9 (by omega)
          have hk0 : 0 < k := by omega
          have hd2 : decide (0 < k) = true := by simp; omega
          obtain ⟨V, hV⟩ : ∃ V, U + 0 * p7 k = V := ⟨_, rfl⟩
          rw [hV] at hor
          clear hA HR hf hc hA2 hV
          go_wp2
          go_ret3
          exact ⟨rfl, rfl⟩
      · have hor : bits .or .u64 U (IntKind.u64.wrap (c * 2 ^ (7 * k))) = U + c * p7 k := or_step U c k hU0 hU.out hc0 hc1 hk9 (by omega)
        obtain ⟨V0, V1⟩ := acc_u hU0 hU.out hc0 hc1 hk9 (by omega)
        have hbd : U + c * p7 k < p7 (k + 1) := acc_bd hU.out hc1
        by_cases hB : 128 ≤ b
        · have hk : k ≠ 9 := by omega
          have hk8 : k ≤ 8 := by omega
          have hb1' : ((k : Int) == 9) = false := by simp; omega
          have hd : decide (b < 128) = false := decide_eq_false (by omega)
          have hm := HR.out
          rw [getR_more hk hB, show b - 128 = c by omega] at hm
          obtain ⟨V, hV⟩ : ∃ V, U + c * p7 k = V := ⟨_, rfl⟩
          rw [hV] at hor V0 V1 hm hbd
          rw [show p + 1 = a + (k + 1) by have := HP.out; omega] at hm
          have HM := Lib.hid hm
          have HBD := Lib.hid hbd
          have hak : a + (k + 1) ≤ s.size := by have := HP.out; omega
          clear hA HR hm hbd hV V1 hk
          go_wp2
          go_round
          case rel => exact ⟨k + 1, V, by omega, hak, by go_num, rfl, V0, HBD, HM⟩
          case measure => simp [intOf]; omega
        · have hB2 : b < 128 := by omega
          obtain rfl : b = c := by omega
          by_cases hC : 0 < k ∧ b = 0
          · have hb1' : ((k : Int) == 9) = false := by simp; omega
            have hb2' : (b == 0) = true := by simp [hC.2]
            have hb3' : decide (0 < k) = true := by simp [hC.1]
            have hf := HR.out
            rw [getR_form (.inr hC) hb0 hk9] at hf
            have hE' := hE.out
            rw [getS_err h hf (by omega)] at hE'
            injection hE' with e1 e2
            injection e2 with e2 e3
            subst e1; subst e2; subst e3
            obtain ⟨hC1, hC2⟩ := hC
            obtain ⟨V, hV⟩ : ∃ V, U + b * p7 k = V := ⟨_, rfl⟩
            rw [hV] at hor
            clear hA HR hf hc hC2 V0 V1 hbd hV
            go_wp2
            go_ret3
            exact ⟨rfl, rfl⟩
          · have hl := HR.out
            rw [getR_last hA hB2 hC hb0] at hl
            have hE' := hE.out
            rw [getS_ok h hl] at hE'
            injection hE' with e1 e2
            injection e2 with e2 e3
            subst e3
            have HI : Hid ((p : Int) + 1 = i) := by have := HP.out; unfold Hid; omega
            obtain ⟨V, hV⟩ : ∃ V, U + b * p7 k = V := ⟨_, rfl⟩
            rw [hV] at hor V0 V1 e1
            have hways := last_ways V v V0 V1 e1
            have hcase : (((k : Int) == 9) = false ∨ (((k : Int) == 9) = true ∧ decide (1 < b) = false)) ∧ (decide (0 < k) = false ∨ (decide (0 < k) = true ∧ (b == 0) = false)) := by
              constructor
              · by_cases h9 : k = 9
                · exact .inr ⟨by simp; omega, by simp; omega⟩
                · exact .inl (by simp; omega)
              · by_cases h0 : 0 < k
                · exact .inr ⟨by simp [h0], by simp; omega⟩
                · exact .inl (by simp; omega)
            clear hA hC HR hl hc hbd hV e1 e2
            obtain ⟨hca, hcb⟩ := hcase
            rcases hways with ⟨ht, hx⟩ | ⟨ht, hx⟩
            · rcases hca with hca | ⟨hca, hca2⟩ <;> rcases hcb with hcb | ⟨hcb, hcb2⟩
              all_goals
                go_wp2
                go_ret3
                rw [HI.out]
                exact ⟨rfl, rfl⟩
            · have hsg : IntKind.i64.signed = true := rfl
              rcases hca with hca | ⟨hca, hca2⟩ <;> rcases hcb with hcb | ⟨hcb, hcb2⟩
              all_goals
                go_wp2
                go_ret3
                rw [HI.out]
                exact ⟨rfl, rfl⟩
    · obtain rfl : p = s.size := by omega
      have HE : Hid ((0, (a : Int), 5) = (v, i, er)) := by
        have h5 := hR.out
        have hd : (nums s).drop s.size = [] := List.drop_of_length_le (by rw [nums_length]; exact Nat.le_refl _)
        rw [hd] at h5
        unfold Hid
        rw [← hE.out, getS_err h h5 (by omega)]
      clear hR
      go_wp2
      have hE' := HE.out
      injection hE' with e1 e2
      injection e2 with e2 e3
      subst e1; subst e2; subst e3
      go_ret3
      exact ⟨rfl, rfl⟩

theorem rgetInt_any (s : ByteArray) (a v i er : Int) (w : World) (hs : s.size ≤ maxLen) (hE : Hid (getS s a = (v, i, er))) :
    Calls Try.prog 28 #[.string s, .int .i64 a] w (RGetPost v i er w) := by
  by_cases h : a < 0 ∨ (s.size : Int) < a
  · exact rgetInt_out s a v i er w hs h hE
  · obtain ⟨n, rfl⟩ : ∃ n : Nat, a = n := ⟨a.toNat, by omega⟩
    exact rgetInt_in s n v i er w hs (by omega) hE

end Go.Proofs.Ytimabgaobhfiaaa
