/-
  The walk of PackedPrefix.
-/
import Derived.Test.YtimabgaobhfiaaaPakLaw
namespace Go.Proofs.Ytimabgaobhfiaaa.packedPrefixW
open Go.RowKit

theorem empty_append (b : ByteArray) : (⟨#[]⟩ : ByteArray) ++ b = b := by
  apply ByteArray.ext; simp

theorem nums_extract (b : ByteArray) (k : Nat) : nums (b.extract 0 k) = (nums b).take k := by
  simp [nums, List.map_take]

set_option maxRecDepth 100000 in
set_option maxHeartbeats 2000000 in
theorem walk (v shift cut : Int) (w0 : (Lit.int .i64 v).wf = true) (_ : (Lit.int .i64 shift).wf = true) (_ : (Lit.int .i64 cut).wf = true) (w : World) :
    Calls Try.prog 9 #[.int .i64 v, .int .i64 shift, .int .i64 cut] w fun e w' => e = .returned (.bool true) ∧ Below w.heap.size w w' := by
  have HV := Lib.hid (isI_wf w0)
  obtain ⟨q, HQ, hq0, hq1⟩ := pick_name shift 64 (by omega)
  have L3 : Hid ((⟨#[]⟩ : ByteArray).size ≤ 140737490452000) := by unfold Hid; decide +kernel
  clear w0
  go_enter Try.func9, Try.ntmps9
  go_wp2_with fail
  refine (pickP_at _ _ q _ (by omega) (by omega) HQ).mono ?_
  rintro e w' ⟨rfl, rfl⟩
  go_wp2_with fail
  generalize hS : (v / _ : Int) = S
  have HI : Hid (IsI S) := by rw [← hS]; exact isI_shr v _ HV.out
  clear hS
  obtain ⟨X, hX⟩ : ∃ X, (⟨#[]⟩ : ByteArray) ++ putB S = X := ⟨_, rfl⟩
  have hXp : X = putB S := by rw [← hX]; exact empty_append _
  have HX := Lib.hid hX
  have HXp := Lib.hid hXp
  have hsz : 1 ≤ X.size ∧ X.size ≤ 10 := by rw [hXp]; exact putB_size S
  obtain ⟨hz0, hz1⟩ := hsz
  clear hX hXp
  refine (putInt_any _ X S _ L3.out HI.out HX).mono ?_
  rintro e w1 ⟨rfl, hb1⟩
  have HB1 := Lib.hid hb1
  clear hb1
  have hne : ((X.size : Int) == 0) = false := by rw [beq_eq_false_iff_ne]; omega
  obtain ⟨z, HZ, hc0, hc1⟩ := pick_name cut X.size (by omega)
  obtain ⟨k, rfl⟩ : ∃ k : Nat, z = k := ⟨z.toNat, by omega⟩
  have HG : Hid (getS (X.extract 0 k) 0 = (0, 0, 5)) := by
    unfold Hid
    refine get_cut (putB S) _ S k HI.out.1 HI.out.2 ?_ (by rw [← HXp.out]; omega)
    rw [nums_extract, HXp.out]
  have HM : Hid ((X.extract 0 k).size ≤ maxLen) := by unfold Hid maxLen; rw [ByteArray.size_extract]; omega
  go_wp2_with fail
  refine (pickP_at _ _ k _ (by omega) (by omega) HZ).mono ?_
  rintro e w2 ⟨rfl, rfl⟩
  go_wp2_with fail
  refine (getInt_any _ 0 0 0 5 _ HM.out HG).mono ?_
  rintro e w3 ⟨rfl, m3, rfl⟩
  have HB3 := Lib.hid (pk_below_drewN HB1.out m3)
  generalize w1.drewN m3 = W at HB3 ⊢
  go_wp2_with fail
  refine (awake_any _).mono ?_
  rintro e w5 ⟨rfl, hb5⟩
  have HB5 := Lib.hid (HB3.out.trans (hb5.mono HB3.out.size))
  clear hb5
  go_wp2
  go_ret
  exact ⟨rfl, HB5.out⟩

end Go.Proofs.Ytimabgaobhfiaaa.packedPrefixW
