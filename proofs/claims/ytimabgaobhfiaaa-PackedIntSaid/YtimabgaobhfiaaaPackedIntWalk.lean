/-
  The walk of PackedInt.
-/
import Derived.Test.YtimabgaobhfiaaaPakLaw
namespace Go.Proofs.Ytimabgaobhfiaaa.packedIntW
open Go.RowKit

set_option maxRecDepth 100000 in
set_option maxHeartbeats 2000000 in
theorem walk (b behind : ByteArray) (v shift : Int) (hb : b.size ≤ 140737488351232) (hr : behind.size ≤ 140737488351232) (w2 : (Lit.int .i64 v).wf = true) (_ : (Lit.int .i64 shift).wf = true) (w : World) :
    Calls Try.prog 5 #[.string b, .string behind, .int .i64 v, .int .i64 shift] w fun e w' => e = .returned (.bool true) ∧ Below w.heap.size w w' := by
  have HV := Lib.hid (isI_wf w2)
  obtain ⟨q, HQ, hq0, hq1⟩ := pick_name shift 64 (by omega)
  clear w2
  go_enter Try.func5, Try.ntmps5
  go_wp2_with fail
  refine (pickP_at _ _ q _ (by omega) (by omega) HQ).mono ?_
  rintro e w' ⟨rfl, rfl⟩
  go_wp2_with fail
  generalize hS : (v / _ : Int) = S
  have HI : Hid (IsI S) := by rw [← hS]; exact isI_shr v _ HV.out
  clear hS
  obtain ⟨X, hX⟩ : ∃ X, b ++ putB S = X := ⟨_, rfl⟩
  have hps := putB_size S
  have hXs : X.size = b.size + (putB S).size := by rw [← hX, ByteArray.size_append]
  have HG : Hid (getS (X ++ behind) b.size = (S, (X.size : Int), 0)) := by
    unfold Hid
    rw [← hX, get_put b behind S HI.out.1 HI.out.2, ByteArray.size_append]
    simp
  have HX := Lib.hid hX
  have hs0 : b.size < X.size := by omega
  have hs1 : X.size ≤ b.size + 10 := by omega
  clear hX hps hXs
  refine (putInt_any b X S _ (by omega) HI.out HX).mono ?_
  rintro e w1 ⟨rfl, hb1⟩
  have HB1 := Lib.hid hb1
  clear hb1
  have HM : Hid ((X ++ behind).size ≤ maxLen) := by unfold Hid maxLen; rw [ByteArray.size_append]; omega
  go_wp2_with fail
  refine (getInt_any _ _ S X.size 0 _ HM.out HG).mono ?_
  rintro e w3 ⟨rfl, m3, rfl⟩
  have HB3 := Lib.hid (pk_below_drewN HB1.out m3)
  generalize w1.drewN m3 = W at HB3 ⊢
  go_wp2_with fail
  refine (awake_any _).mono ?_
  rintro e w5 ⟨rfl, hb5⟩
  have HB5 := Lib.hid (HB3.out.trans (hb5.mono HB3.out.size))
  clear hb5
  go_wp2
  go_ret
  exact ⟨rfl, HB5.out⟩

end Go.Proofs.Ytimabgaobhfiaaa.packedIntW
