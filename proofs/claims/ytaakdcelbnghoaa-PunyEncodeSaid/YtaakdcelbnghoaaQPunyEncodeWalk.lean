/-
  The walk of PunyEncode.
-/
import Derived.Test.YtaakdcelbnghoaaQPunEnv
set_option linter.unusedSimpArgs false
set_option linter.unusedVariables false
namespace Go.Proofs.Ytaakdcelbnghoaa.punyEncodeW
open Go.RowKit

set_option maxRecDepth 100000 in
set_option maxHeartbeats 2000000 in
theorem walk (a0 : Option Addr) (len0 cap0 : Nat) (z0 : List Int) (a1 : Option Addr) (len1 cap1 : Nat) (z1 : List Int) (w : World) (w0 : IsRow .i64 w a0 len0 cap0 z0) (w1 : IsRow .i64 w a1 len1 cap1 z1) :
    Calls Try.prog 3 #[.slice a0 len0 cap0, .slice a1 len1 cap1] w fun e w' => e = .returned (.bool true) ∧ Below w.heap.size w w' := by
  have hcap := w0.capN
  obtain ⟨ls, hlen, hzl, hzs, _⟩ := w0.inn
  obtain ⟨zs, hlen1, hzl1, hzs1, _⟩ := w1.inn
  simp only [IntKind.bits] at hzl hzl1
  have HZ := Lib.hid hzs
  have HZ1 := Lib.hid hzs1
  have HL0 : Hid (ls.length = len0) := hlen.symm
  have HL1 : Hid (zs.length = len1) := hlen1.symm
  have hb0 : len0 ≤ 17592186043904 := by omega
  have hb1 : len1 ≤ 17592186043904 := by omega
  obtain ⟨xs, hX⟩ : ∃ xs, ptsF zs = xs := ⟨_, rfl⟩
  have hl11 : xs.length ≤ 11 := by rw [← hX]; exact ptsF_len zs
  have hsc : xs.all scpB = true := by rw [← hX]; exact ptsF_sc zs
  obtain ⟨X, S, HE, HS, hXl, HD⟩ := encP_ok hsc hl11
  obtain ⟨Y, er, hY⟩ : ∃ Y er, encP ls = (Y, er) := ⟨_, _, rfl⟩
  obtain ⟨R, hR⟩ : ∃ R, strOfNums Y = R := ⟨_, rfl⟩
  have HY := Lib.hid hY
  have HR := Lib.hid hR
  have HX := Lib.hid hX
  obtain ⟨n, hn⟩ : ∃ n, xs.length = n := ⟨_, rfl⟩
  have hn11 : n ≤ 11 := by omega
  have HL := Lib.hid hn
  clear hX hsc hXl HD hl11 hY hR hzs hzs1 hlen hlen1 hzl hzl1 w0 w1
  go_enter Try.func3, Try.ntmps3
  go_wp2_with fail
  refine (encode_at a0 len0 cap0 ls Y er R _ HZ.out HL0 hcap hb0 HY HR).mono ?_
  rintro e w2 ⟨rfl, hb2⟩
  have HZ2 := Lib.hid (HZ.out.below hb2)
  have HZ3 := Lib.hid (HZ1.out.below hb2)
  have HB2 := Lib.hid hb2
  clear hb2 HZ HZ1
  go_wp2_with fail
  refine (rencode_at a0 len0 cap0 ls Y er R _ HZ2.out HL0 hb0 HY HR).mono ?_
  rintro e w3 ⟨rfl, hb3⟩
  have HZ4 := Lib.hid (HZ3.out.below hb3)
  have HB3 := Lib.hid (HB2.out.trans (hb3.mono HB2.out.size))
  clear hb3 HZ2 HZ3 HB2
  go_wp2_with fail
  refine (pts_at a1 len1 cap1 zs xs _ HZ4.out HL1 hb1 HX).mono ?_
  rintro e w4 ⟨p4, c4, rfl, hi4, hc4, hb4⟩
  rw [hn] at hc4
  rw [hn]
  have HI4 := Lib.hid hi4
  have HZ5 := Lib.hid (HZ4.out.below hb4)
  have HB4 := Lib.hid (HB3.out.trans (hb4.mono HB3.out.size))
  clear hi4 hb4 HZ4 HB3
  go_wp2_with fail
  refine (encode_at p4 n c4 xs X 0 S _ HI4.out HL hc4 (by omega) HE HS).mono ?_
  rintro e w5 ⟨rfl, hb5⟩
  have HZ6 := Lib.hid (HZ5.out.below hb5)
  have HB5 := Lib.hid (HB4.out.trans (hb5.mono HB4.out.size))
  clear hb5 HZ5 HB4 HI4
  go_wp2_with fail
  refine (pts_at a1 len1 cap1 zs xs _ HZ6.out HL1 hb1 HX).mono ?_
  rintro e w6 ⟨p6, c6, rfl, hi6, hc6, hb6⟩
  rw [hn] at hc6
  rw [hn]
  have HI6 := Lib.hid hi6
  have HB6 := Lib.hid (HB5.out.trans (hb6.mono HB5.out.size))
  clear hi6 hb6 HZ6 HB5
  go_wp2_with fail
  refine (rencode_at p6 n c6 xs X 0 S _ HI6.out HL (by omega) HE HS).mono ?_
  rintro e w7 ⟨rfl, hb7⟩
  have HB7 := Lib.hid (HB6.out.trans (hb7.mono HB6.out.size))
  clear hb7 HI6 HB6
  go_wp2_with fail
  refine (awake10_any _).mono ?_
  rintro e w8 ⟨rfl, hb8⟩
  have HB8 := Lib.hid (HB7.out.trans (hb8.mono HB7.out.size))
  clear hb8
  go_wp2
  go_ret
  exact ⟨rfl, HB8.out⟩

end Go.Proofs.Ytaakdcelbnghoaa.punyEncodeW
