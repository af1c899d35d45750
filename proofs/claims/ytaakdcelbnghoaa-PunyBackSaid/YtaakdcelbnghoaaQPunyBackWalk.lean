/-
  The walk of PunyBack.
-/
import Derived.Test.YtaakdcelbnghoaaQPunEnv
import Derived.Test.YtaakdcelbnghoaaPkL
set_option linter.unusedSimpArgs false
set_option linter.unusedVariables false
namespace Go.Proofs.Ytaakdcelbnghoaa.punyBackW
open Go.RowKit

set_option maxRecDepth 100000 in
set_option maxHeartbeats 2000000 in
theorem walk (a0 : Option Addr) (len0 cap0 : Nat) (z0 : List Int) (w : World) (w0 : IsRow .i64 w a0 len0 cap0 z0) :
    Calls Try.prog 6 #[.slice a0 len0 cap0] w fun e w' => e = .returned (.bool true) ∧ Below w.heap.size w w' := by
  obtain ⟨zs, rfl, hzl, hzs, _⟩ := w0.inn
  simp only [IntKind.bits] at hzl
  have HZ := Lib.hid hzs
  clear hzs w0
  obtain ⟨xs, hX⟩ : ∃ xs, ptsF zs = xs := ⟨_, rfl⟩
  have hl11 : xs.length ≤ 11 := by rw [← hX]; exact ptsF_len zs
  have hsc : xs.all scpB = true := by rw [← hX]; exact ptsF_sc zs
  obtain ⟨X, S, HE, HS, hXl, HD⟩ := encP_ok hsc hl11
  have HN : Hid (decP (nums S) = (xs, 0)) := by
    unfold Hid
    rw [← HS.out, nums_of X (scp_int HE.out)]
    exact HD.out
  have hSs : S.size ≤ 2048 := by rw [← HS.out, strOfNums_size]; exact hXl
  have HX := Lib.hid hX
  obtain ⟨n, hn⟩ : ∃ n, xs.length = n := ⟨_, rfl⟩
  have hn11 : n ≤ 11 := by omega
  have HL := Lib.hid hn
  clear hX hsc hXl HD hl11
  go_enter Try.func6, Try.ntmps6
  go_wp2_with fail
  refine (points10_at a0 cap0 zs xs _ HZ.out (by omega) HX).mono ?_
  rintro e w1 ⟨p1, c1, rfl, hi1, hc1, hb1⟩
  rw [hn] at hc1
  rw [hn]
  have HI1 := Lib.hid hi1
  have HB1 := Lib.hid hb1
  clear hi1 hb1 hn
  go_wp2_with fail
  refine (encode_at p1 n c1 xs X 0 S _ HI1.out HL hc1 (by omega) HE HS).mono ?_
  rintro e w2 ⟨rfl, hb2⟩
  have HI2 := Lib.hid (HI1.out.below hb2)
  have HB2 := Lib.hid (HB1.out.trans (hb2.mono HB1.out.size))
  clear hb2 HI1 HB1
  go_wp2_with fail
  refine (pdecode_at S xs 0 _ (by omega) HN).mono ?_
  rintro e w3 ⟨v3, rfl, hi3, hb3⟩
  obtain ⟨p3, c3, rfl, hin3⟩ := hi3.inn
  have HI3 := Lib.hid hin3
  have HI4 := Lib.hid (HI2.out.below hb3)
  have HB3 := Lib.hid (HB2.out.trans (hb3.mono HB2.out.size))
  clear hi3 hin3 hb3 HI2 HB2
  go_wp2_with fail
  refine (awake10_any _).mono ?_
  rintro e w4 ⟨rfl, hb4⟩
  have HI5 := Lib.hid (HI3.out.below hb4)
  have HI6 := Lib.hid (HI4.out.below hb4)
  have HB4 := Lib.hid (HB3.out.trans (hb4.mono HB3.out.size))
  clear hb4 HI3 HI4 HB3
  go_wp2_with fail
  refine (same10_at _ _ _ _ _ _ xs _ HI5.out HI6.out (by rw [HL.out]; unfold maxLen; omega) rfl HL.out).mono ?_
  rintro e w5 ⟨rfl, hb5⟩
  have HB5 := Lib.hid (HB4.out.trans (hb5.mono HB4.out.size))
  clear hb5
  go_wp2
  go_ret
  exact ⟨rfl, HB5.out⟩

end Go.Proofs.Ytaakdcelbnghoaa.punyBackW
