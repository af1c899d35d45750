/-
  The references PutInt and Sum; packed.Sum.
-/
import Derived.Test.YtimabgaobhfiaaaConv
import Derived.Test.YtimabgaobhfiaaaPakB
import Derived.Test.YtimabgaobhfiaaaPakSum
import Derived.Test.YtimabgaobhfiaaaPakE
namespace Go.Proofs.Ytimabgaobhfiaaa
open Go.RowKit

/-- The loop of the reference PutInt, in whatever frame. -/
theorem codF_str_big {f : Nat} {u : Int} (h : 127 < u) : strOfNums (codF (f + 1) u) = strOfNums [u % 128 + 128] ++ strOfNums (codF f (u / 128)) := by
  rw [codF_big h, ← strOf_append]; rfl
theorem codF_str_small {f : Nat} {u : Int} (h : u ≤ 127) : strOfNums (codF f u) = strOfNums [u] := by rw [codF_small h]

set_option maxRecDepth 100000 in
set_option maxHeartbeats 2000000 in
theorem rputInt_any (b X : ByteArray) (z : Int) (w : World) (hs : b.size ≤ 140737490452000) (hz : IsI z) (hX : Hid (b ++ putB z = X)) :
    Calls Try.prog 19 #[.string b, .int .i64 z] w fun e w' => e = .returned (.string X) ∧ Below w.heap.size w w' := by
  obtain ⟨u0, hu0⟩ : ∃ u, zz z = u := ⟨_, rfl⟩
  have hu := zz_u z hz
  have hX' := hX.out
  rw [putB, hu0] at hX'
  rw [hu0] at hu
  have HU : Hid (u0 < 2 * p7 9) := hu.2
  have hu00 := hu.1
  have HX : Hid (b ++ strOfNums (codF 9 u0) = X) := hX'
  have HXs : Hid (X.size ≤ 140737490452010) := by
    have := (codF_length 9 u0).2
    unfold Hid; rw [← HX.out, ByteArray.size_append, strOfNums_size]; omega
  clear hu hX'
  have hcase : (0 ≤ z ∧ IntKind.u64.wrap (IntKind.u64.wrap z * 2) = u0) ∨ (z < 0 ∧ IntKind.u64.signed = false ∧ bits .xor .u64 IntKind.u64.max (IntKind.u64.wrap (IntKind.u64.wrap z * 2)) = u0) := by
    by_cases h0 : 0 ≤ z
    · exact .inl ⟨h0, by rw [zz_words_pos z h0 hz]; exact hu0⟩
    · exact .inr ⟨by omega, rfl, by rw [zz_words_neg z (by omega) hz]; exact hu0⟩
  clear hu0
  rcases hcase with ⟨h0, hw⟩ | ⟨h0, hsg, hw⟩
  all_goals
    go_enter Try.func19, Try.ntmps19
    go_wp2
    clear hw
    go_loopw [0, 5] (fun bv uu wr => ∃ (f : Nat) (u : Int) (B : ByteArray), f ≤ 9 ∧ uu = .int .u64 u ∧ bv = .string B ∧ 0 ≤ u ∧ Hid (u < 2 * p7 f) ∧ Hid (B ++ strOfNums (codF f u) = X) ∧ Hid (Below w.heap.size w wr)) (fun _ uu _ => (intOf uu).toNat)
    case atStart => exact ⟨9, u0, b, by omega, rfl, rfl, hu00, HU, HX, Below.refl _ _⟩
    case round =>
      clear HX HU hu00
      obtain ⟨f, u, B, hf9, rfl, rfl, hu0, hu, hEq, hbel⟩ := hrel
      have hBs : B.size ≤ 140737490452010 := by
        have h1 := HXs.out
        rw [← hEq.out, ByteArray.size_append] at h1; omega
      by_cases hbig : 127 < u
      · obtain ⟨k, rfl⟩ : ∃ k, f = k + 1 := by
          cases f with
          | zero => have := hu.out; simp only [p7] at this; omega
          | succ k => exact ⟨k, rfl⟩
        have hdiv : IntKind.u64.wrap (u.tdiv 128) = u / 128 := by
          have h1 := hu.out
          have h2 := p7_mono hf9
          rw [Int.tdiv_eq_ediv_of_nonneg hu0, IntKind.wrap_u64]
          omega
        have HL : Hid (u / 128 < 2 * p7 k) := div_lt k u hu.out
        have hcv := conv_lit wr #[.int .u8 (u % 128 + 128)] [u % 128 + 128] 1 rfl rfl
        have hE2 := hEq.out
        rw [codF_str_big hbig] at hE2
        have hYs : (strOfNums [u % 128 + 128]).size ≤ 1 := by rw [strOfNums_size]; simp
        obtain ⟨Y, hY⟩ : ∃ Y, strOfNums [u % 128 + 128] = Y := ⟨_, rfl⟩
        rw [hY] at hcv hE2 hYs
        rw [← str_assoc] at hE2
        have HE2 := Lib.hid hE2
        clear hE2 hY hEq hu
        go_wp2
        go_roundw
        case rel => exact ⟨k, u / 128, B ++ Y, by omega, by go_num, rfl, by omega, HL, HE2, hbel.out.alloc hbel.out.size _⟩
        case measure => simp [intOf]; omega
      · have hd : decide (127 < u) = false := decide_eq_false hbig
        have hcv := conv_lit wr #[.int .u8 u] [u] 1 rfl rfl
        have hE2 := hEq.out
        rw [codF_str_small (by omega)] at hE2
        have hYs : (strOfNums [u]).size ≤ 1 := by rw [strOfNums_size]; simp
        obtain ⟨Y, hY⟩ : ∃ Y, strOfNums [u] = Y := ⟨_, rfl⟩
        rw [hY] at hcv hE2 hYs
        have HE2 := Lib.hid hE2
        have hu128 : u < 128 := by omega
        clear hE2 hY hEq hu hbig
        go_wp2
        go_ret
        rw [HE2.out]
        exact ⟨rfl, hbel.out.alloc hbel.out.size _⟩

/-! ### Sum -/

theorem nums_at (s : ByteArray) (k : Nat) (h : k < s.size) : (nums s).take (k + 1) = (nums s).take k ++ [(s[k].toNat : Int)] := by
  have hl : k < (nums s).length := by rw [nums_length]; exact h
  rw [List.take_succ_eq_append_getElem hl]
  congr 2
  simp [nums]
  rfl

def sumS (s : ByteArray) : Int := sumL 2166136261 (nums s)

theorem sumS_bd (s : ByteArray) : 0 ≤ sumS s ∧ sumS s < 4294967296 := sumL_bd _ _ (by omega) (by omega)

set_option maxHeartbeats 1000000 in
theorem sum_any (s : ByteArray) (X : Int) (w : World) (hs : s.size ≤ maxLen) (hX : Hid (sumS s = X)) :
    Calls Try.prog 20 #[.string s] w fun e w' => e = .returned (.int .i64 X) ∧ w = w' := by
  unfold maxLen at hs
  go_enter Try.func20, Try.ntmps20
  go_wp2
  go_loop [3, 7] (fun x i => ∃ (k : Nat) (y : Int), k ≤ s.size ∧ i = .int .i64 k ∧ x = .int .u32 y ∧ 0 ≤ y ∧ y < 4294967296 ∧ Hid (sumL 2166136261 ((nums s).take k) = y)) (fun _ i => s.size - (intOf i).toNat)
  case atStart => exact ⟨0, 2166136261, Nat.zero_le _, rfl, rfl, by omega, by omega, rfl⟩
  case round =>
    obtain ⟨k, y, hk, rfl, rfl, hy0, hy1, hE⟩ := hrel
    by_cases hlt : k < s.size
    · have hnd := nums_at s k hlt
      obtain ⟨b, hb⟩ : ∃ b : Int, (s[k].toNat : Int) = b := ⟨_, rfl⟩
      have hb0 : 0 ≤ b := by omega
      have hb1 : b ≤ 255 := by have := s[k].toNat_lt; omega
      rw [hb] at hnd
      have hst := u32_sum y b hy0 hy1 hb0 (by omega)
      have HE : Hid (sumL 2166136261 ((nums s).take (k + 1)) = sumStep y b) := by unfold Hid; rw [hnd, sumL_snoc, hE.out]
      obtain ⟨z0, z1⟩ := sumStep_bd y b
      obtain ⟨z, hz⟩ : ∃ z, sumStep y b = z := ⟨_, rfl⟩
      rw [hz] at hst HE z0 z1
      clear hz hnd hE
      go_wp2
      go_round
      case rel => exact ⟨k + 1, z, by omega, by go_num, rfl, z0, z1, HE⟩
      case measure => simp [intOf]; omega
    · obtain rfl : k = s.size := by omega
      have HE : Hid (y = X) := by
        unfold Hid
        rw [← hE.out, ← hX.out, List.take_of_length_le (by rw [nums_length]; exact Nat.le_refl _)]; rfl
      clear hE
      go_wp2
      go_ret
      rw [← HE.out]
      exact ⟨rfl, rfl⟩

set_option maxHeartbeats 1000000 in
theorem rsum_any (s : ByteArray) (X : Int) (w : World) (hs : s.size ≤ maxLen) (hX : Hid (sumS s = X)) :
    Calls Try.prog 21 #[.string s] w fun e w' => e = .returned (.int .i64 X) ∧ w = w' := by
  unfold maxLen at hs
  go_enter Try.func21, Try.ntmps21
  go_wp2
  go_loop [3, 4] (fun x i => ∃ (k : Nat) (y : Int), k ≤ s.size ∧ i = .int .i64 k ∧ x = .int .u32 y ∧ 0 ≤ y ∧ y < 4294967296 ∧ Hid (sumL 2166136261 ((nums s).take k) = y)) (fun _ i => s.size - (intOf i).toNat)
  case atStart => exact ⟨0, 2166136261, Nat.zero_le _, rfl, rfl, by omega, by omega, rfl⟩
  case round =>
    obtain ⟨k, y, hk, rfl, rfl, hy0, hy1, hE⟩ := hrel
    by_cases hlt : k < s.size
    · have hnd := nums_at s k hlt
      obtain ⟨b, hb⟩ : ∃ b : Int, (s[k].toNat : Int) = b := ⟨_, rfl⟩
      have hb0 : 0 ≤ b := by omega
      have hb1 : b ≤ 255 := by have := s[k].toNat_lt; omega
      rw [hb] at hnd
      have hst := u32_sum y b hy0 hy1 hb0 (by omega)
      have HE : Hid (sumL 2166136261 ((nums s).take (k + 1)) = sumStep y b) := by unfold Hid; rw [hnd, sumL_snoc, hE.out]
      obtain ⟨z0, z1⟩ := sumStep_bd y b
      obtain ⟨z, hz⟩ : ∃ z, sumStep y b = z := ⟨_, rfl⟩
      rw [hz] at hst HE z0 z1
      clear hz hnd hE
      go_wp2
      go_round
      case rel => exact ⟨k + 1, z, by omega, by go_num, rfl, z0, z1, HE⟩
      case measure => simp [intOf]; omega
    · obtain rfl : k = s.size := by omega
      have HE : Hid (y = X) := by
        unfold Hid
        rw [← hE.out, ← hX.out, List.take_of_length_le (by rw [nums_length]; exact Nat.le_refl _)]; rfl
      clear hE
      go_wp2
      go_ret
      rw [← HE.out]
      exact ⟨rfl, rfl⟩

end Go.Proofs.Ytimabgaobhfiaaa
