/-
  The walk of PackedPut.
-/
import Derived.Test.YtimabgaobhfiaaaPakLaw
import Derived.Test.YtimabgaobhfiaaaRanOpen
namespace Go.Proofs.Ytimabgaobhfiaaa.packedPutW
open Go.RowKit

set_option maxRecDepth 100000 in
set_option maxHeartbeats 4000000 in
theorem walk (b : ByteArray) (v : Int) (a2 : Option Addr) (len2 cap2 : Nat) (z2 : List Int) (a3 : Option Addr) (len3 cap3 : Nat) (z3 : List Sp) (shift : Int) (w : World) (w0 : b.size ≤ 140737488351232) (w1 : (Lit.int .i64 v).wf = true)
    (w2 : IsRow .i64 w a2 len2 cap2 z2) (w3 : IsSpans w a3 len3 cap3 z3) (_ : (Lit.int .i64 shift).wf = true) :
    Calls Try.prog 4 #[.string b, .int .i64 v, .slice a2 len2 cap2, .slice a3 len3 cap3, .int .i64 shift] w fun e w' => e = .returned (.bool true) ∧ Below w.heap.size w w' := by
  obtain ⟨xs, rfl, hxl, hxs, _⟩ := w2.inn
  simp only [IntKind.bits] at hxl
  obtain ⟨hzl, hzm, _, _, hzs⟩ := w3
  have HX := Lib.hid hxs
  have HZ := Lib.hid hzs
  have HZL := Lib.hid hzl
  have HZM := Lib.hid hzm
  have HXM : Hid (xs.length ≤ maxLen) := by unfold Hid maxLen; omega
  have HV := Lib.hid (isI_wf w1)
  obtain ⟨q, HQ, hq0, hq1⟩ := pick_name shift 64 (by omega)
  obtain ⟨L, el, hl⟩ : ∃ L el, putListS b xs = (L, el) := ⟨_, _, rfl⟩
  obtain ⟨M, em, hm⟩ : ∃ M em, putSpansS b z3 = (M, em) := ⟨_, _, rfl⟩
  obtain ⟨X, hX⟩ : ∃ X, b ++ putB v = X := ⟨_, rfl⟩
  obtain ⟨S, hS⟩ : ∃ S, sumS b = S := ⟨_, rfl⟩
  have HL := Lib.hid hl
  have HM := Lib.hid hm
  have HXX := Lib.hid hX
  have HSS := Lib.hid hS
  have L3 : Hid ((⟨#[]⟩ : ByteArray).size ≤ 140737490452000) := by unfold Hid; decide +kernel
  have HBS : Hid (b.size ≤ maxLen) := by unfold Hid maxLen; omega
  clear w1 w2 hxs hzs hzl hzm hl hm hX hS
  go_enter Try.func4, Try.ntmps4
  go_wp2_with fail
  refine (pickP_at _ _ q _ (by omega) (by omega) HQ).mono ?_
  rintro e w' ⟨rfl, rfl⟩
  go_wp2_with fail
  generalize hS : (v / _ : Int) = W
  have HI : Hid (IsI W) := by rw [← hS]; exact isI_shr v _ HV.out
  clear hS
  obtain ⟨Y, hY⟩ : ∃ Y, (⟨#[]⟩ : ByteArray) ++ putB W = Y := ⟨_, rfl⟩
  have HY := Lib.hid hY
  clear hY
  refine (putList_any b _ _ _ xs L el _ w0 rfl HXM.out HX.out HL).mono ?_
  rintro e w1 ⟨rfl, hb1⟩
  have HB1 := Lib.hid hb1
  have HX1 := Lib.hid (HX.out.below hb1)
  have HZ1 := Lib.hid (HZ.out.below hb1)
  clear hb1
  go_wp2_with fail
  refine (rputList_any b _ _ _ xs L el _ w0 rfl HXM.out HX1.out HL).mono ?_
  rintro e w2 ⟨rfl, hb2⟩
  have HZ2 := Lib.hid (HZ1.out.below hb2)
  have HB2 := Lib.hid (HB1.out.trans (hb2.mono HB1.out.size))
  clear hb2
  go_wp2_with fail
  refine (putSpans_any b _ _ _ z3 M em _ w0 HZL.out HZM.out HZ2.out HM).mono ?_
  rintro e w3 ⟨rfl, hb3⟩
  have HZ3 := Lib.hid (HZ2.out.below hb3)
  have HB3 := Lib.hid (HB2.out.trans (hb3.mono HB2.out.size))
  clear hb3
  go_wp2_with fail
  refine (rputSpans_any b _ _ _ z3 M em _ w0 HZL.out HZM.out HZ3.out HM).mono ?_
  rintro e w4 ⟨rfl, hb4⟩
  have HB4 := Lib.hid (HB3.out.trans (hb4.mono HB3.out.size))
  clear hb4
  go_wp2_with fail
  refine (awake_any _).mono ?_
  rintro e w5 ⟨rfl, hb5⟩
  have HB5 := Lib.hid (HB4.out.trans (hb5.mono HB4.out.size))
  clear hb5
  go_wp2_with fail
  refine (putInt_any b X v _ (by omega) HV.out HXX).mono ?_
  rintro e w6 ⟨rfl, hb6⟩
  have HB6 := Lib.hid (HB5.out.trans (hb6.mono HB5.out.size))
  clear hb6
  go_wp2_with fail
  refine (rputInt_any b X v _ (by omega) HV.out HXX).mono ?_
  rintro e w7 ⟨rfl, hb7⟩
  have HB7 := Lib.hid (HB6.out.trans (hb7.mono HB6.out.size))
  clear hb7
  go_wp2_with fail
  refine (putInt_any _ Y W _ L3.out HI.out HY).mono ?_
  rintro e w8 ⟨rfl, hb8⟩
  have HB8 := Lib.hid (HB7.out.trans (hb8.mono HB7.out.size))
  clear hb8
  go_wp2_with fail
  refine (rputInt_any _ Y W _ L3.out HI.out HY).mono ?_
  rintro e w9 ⟨rfl, hb9⟩
  have HB9 := Lib.hid (HB8.out.trans (hb9.mono HB8.out.size))
  clear hb9
  go_wp2_with fail
  refine (sum_any b S _ HBS.out HSS).mono ?_
  rintro e w10 ⟨rfl, rfl⟩
  go_wp2_with fail
  refine (rsum_any b S _ HBS.out HSS).mono ?_
  rintro e w10 ⟨rfl, rfl⟩
  go_wp2
  go_ret
  exact ⟨rfl, HB9.out⟩

end Go.Proofs.Ytimabgaobhfiaaa.packedPutW
