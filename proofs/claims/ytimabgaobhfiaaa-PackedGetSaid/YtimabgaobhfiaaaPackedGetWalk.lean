/-
  The walk of PackedGet.
-/
import Derived.Test.YtimabgaobhfiaaaPakLaw
namespace Go.Proofs.Ytimabgaobhfiaaa.packedGetW
open Go.RowKit

set_option maxRecDepth 100000 in
set_option maxHeartbeats 4000000 in
theorem walk (s : ByteArray) (a : Int) (a2 : Option Addr) (len2 cap2 : Nat) (z2 : List Int) (w : World) (w0 : s.size ≤ 140737488351232) (w1 : (Lit.int .i64 a).wf = true) (w2 : IsRow .u8 w a2 len2 cap2 z2) :
    Calls Try.prog 3 #[.string s, .int .i64 a, .slice a2 len2 cap2] w fun e w' => e = .returned (.bool true) ∧ Below w.heap.size w w' := by
  obtain ⟨xs, rfl, hxl, hxs, hwf⟩ := w2.inn
  simp only [IntKind.bits] at hxl
  have HX := Lib.hid hxs
  have HW := Lib.hid hwf
  clear hxs w2 hwf
  go_enter Try.func3, Try.ntmps3
  go_wp2
  go_loopw [7, 8] (fun t i wr => ∃ k : Nat, ∃ T : ByteArray, k ≤ 30 ∧ i = .int .i64 k ∧ t = .string T ∧ T.size ≤ k ∧ Hid (Below w.heap.size w wr)) (fun _ i _ => 30 - (intOf i).toNat)
  case atStart => exact ⟨0, ByteArray.empty, by omega, rfl, rfl, by simp, Below.refl _ _⟩
  case round =>
    obtain ⟨k, T, hk, rfl, rfl, hT, hbel⟩ := hrel
    by_cases hlt : k < xs.length ∧ k < 30
    · obtain ⟨hlt1, hlt2⟩ := hlt
      obtain ⟨b, off, rfl, hck⟩ := (HX.out.below hbel.out) k hlt1
      have hwx := HW.out _ (getD_mem_int xs k hlt1)
      obtain ⟨x, hx⟩ : ∃ x, xs.getD k 0 = x := ⟨_, rfl⟩
      rw [hx] at hck hwx
      have hx0 : 0 ≤ x ∧ x ≤ 255 := by simp only [Lit.wf, Bool.and_eq_true, decide_eq_true_eq] at hwx; exact hwx
      obtain ⟨hx0, hx1⟩ := hx0
      have hi : (x % 10).toNat < (⟨#[0, 1, 2, 3, 4, 6, 127, 128, 129, 255]⟩ : ByteArray).size := by show _ < 10; omega
      obtain ⟨y, hy⟩ : ∃ y : Int, (((⟨#[0, 1, 2, 3, 4, 6, 127, 128, 129, 255]⟩ : ByteArray)[(x % 10).toNat]'hi).toNat : Int) = y := ⟨_, rfl⟩
      have hcv := conv_lit wr #[.int .u8 y] [y] 1 rfl rfl
      have hYs : (strOfNums [y]).size ≤ 1 := by rw [strOfNums_size]; simp
      obtain ⟨Y, hY⟩ : ∃ Y, strOfNums [y] = Y := ⟨_, rfl⟩
      rw [hY] at hcv hYs
      have hTY : (T ++ Y).size ≤ k + 1 := by rw [ByteArray.size_append]; omega
      clear hx hwx hY
      go_wp2
      go_roundw
      case rel => exact ⟨k + 1, T ++ Y, by omega, by go_num, rfl, hTY, hbel.out.alloc hbel.out.size _⟩
      case measure => simp [intOf]; omega
    · have hout : xs.length ≤ k ∨ (k < xs.length ∧ 30 ≤ k) := by omega
      have HS : Hid (s.size ≤ maxLen) := by unfold Hid maxLen; omega
      have HT : Hid (T.size ≤ maxLen) := by unfold Hid maxLen; omega
      have HT4 : Hid (((⟨#[4]⟩ : ByteArray) ++ T).size ≤ maxLen) := by
        unfold Hid maxLen
        rw [ByteArray.size_append]
        have : (⟨#[4]⟩ : ByteArray).size = 1 := rfl
        omega
      obtain ⟨z1, HZ1, hz0, hz1⟩ := pick_name a ((s.size : Int) + 1) (by omega)
      obtain ⟨z3, HZ3, hz2, hz3⟩ := pick_name a ((T.size : Int) + 2) (by omega)
      clear hlt
      rcases hout with ho | ⟨ho, ho2⟩
      all_goals
        go_wp2_with fail
        refine (awake_any _).mono ?_
        rintro e w1 ⟨rfl, hb1⟩
        have HB1 := Lib.hid (hbel.out.trans (hb1.mono hbel.out.size))
        clear hb1
        go_wp2_with fail
        refine (agrees_at s a _ HS).mono ?_
        rintro e w2 ⟨rfl, hb2⟩
        have HB2 := Lib.hid (HB1.out.trans (hb2.mono HB1.out.size))
        clear hb2
        go_wp2_with fail
        refine (pickP_at _ _ z1 _ (by omega) (by omega) HZ1).mono ?_
        rintro e w3 ⟨rfl, rfl⟩
        go_wp2_with fail
        refine (agrees_at s z1 _ HS).mono ?_
        rintro e w3 ⟨rfl, hb3⟩
        have HB3 := Lib.hid (HB2.out.trans (hb3.mono HB2.out.size))
        clear hb3
        go_wp2_with fail
        refine (pickP_at _ _ z3 _ (by omega) (by omega) HZ3).mono ?_
        rintro e w4 ⟨rfl, rfl⟩
        go_wp2_with fail
        refine (agrees_at T (z3 - 1) _ HT).mono ?_
        rintro e w4 ⟨rfl, hb4⟩
        have HB4 := Lib.hid (HB3.out.trans (hb4.mono HB3.out.size))
        clear hb4
        go_wp2_with fail
        refine (agrees_at _ 0 _ HT4).mono ?_
        rintro e w5 ⟨rfl, hb5⟩
        have HB5 := Lib.hid (HB4.out.trans (hb5.mono HB4.out.size))
        clear hb5
        go_wp2
        go_ret
        exact ⟨rfl, HB5.out⟩

end Go.Proofs.Ytimabgaobhfiaaa.packedGetW
