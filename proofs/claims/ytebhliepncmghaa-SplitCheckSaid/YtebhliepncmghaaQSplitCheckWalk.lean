/-
  The walk of SplitCheck.
-/
import Derived.Test.YtebhliepncmghaaQSplLaw
set_option linter.unusedSimpArgs false
set_option linter.unusedVariables false
namespace Go.Proofs.Ytebhliepncmghaa.splitCheckW
open Go.RowKit
set_option linter.unusedVariables false

set_option maxRecDepth 100000 in
set_option maxHeartbeats 4000000 in
theorem walk (a0 : Option Addr) (len0 cap0 : Nat) (z0 : List ByteArray) (a1 : Option Addr) (len1 cap1 : Nat) (z1 : List Int) (w : World) (w0 : IsStrs w a0 len0 cap0 z0) (w1 : IsRow .i64 w a1 len1 cap1 z1) :
    Calls Try.prog 4 #[.slice a0 len0 cap0, .slice a1 len1 cap1] w fun e w' => e = .returned (.bool true) ∧ Below w.heap.size w w' := by
  obtain ⟨hR, hRn, hRc, hRl⟩ := w0
  obtain ⟨zs, hzn, hzl, hzs, _⟩ := w1.inn
  simp only [IntKind.bits] at hzl
  have HR := Lib.hid hR
  have HRN := Lib.hid hRn
  have HZ := Lib.hid hzs
  have HZN : Hid (zs.length = len1) := hzn.symm
  have hzb : len1 ≤ 17592186043904 := by omega
  obtain ⟨K, E, hK⟩ : ∃ K E, chkD (z0.map ByteArray.size) = (K, E) := ⟨_, _, rfl⟩
  obtain ⟨S, F, hS⟩ : ∃ S F, nameE z0 = (S, F) := ⟨_, _, rfl⟩
  have HK := Lib.hid hK
  have HS := Lib.hid hS
  have q1 : (S.toList == S.toList) = true := by simp
  have q2 : (E == E) = true := by simp
  have q3 : (F == F) = true := by simp
  clear hK hS hR hRn hzs hzn hzl w1
  go_enter Try.func4, Try.ntmps4
  go_wp2_with fail
  refine (labs12_any a1 len1 cap1 zs _ HZ.out HZN hzb).mono ?_
  rintro e w2 ⟨L, v2, rfl, hst, hL7, _, hb2⟩
  obtain ⟨p, c, rfl, hin, hlc⟩ := hst.inn
  obtain ⟨n, hn⟩ : ∃ n, L.length = n := ⟨_, rfl⟩
  rw [hn] at hlc hL7 ⊢
  have HIN := Lib.hid hin
  have HN := Lib.hid hn
  have HB := Lib.hid hb2
  replace HR := Lib.hid (HR.out.below hb2)
  obtain ⟨K2, E2, hK2⟩ : ∃ K E, chkD (L.map ByteArray.size) = (K, E) := ⟨_, _, rfl⟩
  obtain ⟨S2, F2, hS2⟩ : ∃ S F, nameE L = (S, F) := ⟨_, _, rfl⟩
  have HK2 := Lib.hid hK2
  have HS2 := Lib.hid hS2
  have q4 : (S2.toList == S2.toList) = true := by simp
  have q5 : (E2 == E2) = true := by simp
  have q6 : (F2 == F2) = true := by simp
  clear hst hin hn hb2 hK2 hS2 HZ
  go_wp2_with fail
  refine (check_at p n c K2 E2 L _ HIN.out HN hlc (by omega) HK2).mono ?_
  rintro e w3 ⟨rfl, hb⟩
  replace HB := Lib.hid (HB.out.trans (hb.mono HB.out.size))
  replace HIN := Lib.hid (HIN.out.below hb)
  replace HR := Lib.hid (HR.out.below hb)
  clear hb
  go_wp2_with fail
  refine (rcheck_at p n c K2 E2 L _ HIN.out HN (by omega) HK2).mono ?_
  rintro e w4 ⟨rfl, rfl⟩
  go_wp2_with fail
  refine (name_at p n c S2 F2 L _ HIN.out HN hlc (by omega) HS2).mono ?_
  rintro e w5 ⟨rfl, hb⟩
  replace HB := Lib.hid (HB.out.trans (hb.mono HB.out.size))
  replace HIN := Lib.hid (HIN.out.below hb)
  replace HR := Lib.hid (HR.out.below hb)
  clear hb
  go_wp2_with fail
  refine (rname_at p n c S2 F2 L _ HIN.out HN (by omega) HS2).mono ?_
  rintro e w6 ⟨rfl, rfl⟩
  go_wp2_with fail
  refine (check_at a0 len0 cap0 K E z0 _ HR.out HRN hRc hRl HK).mono ?_
  rintro e w7 ⟨rfl, hb⟩
  replace HB := Lib.hid (HB.out.trans (hb.mono HB.out.size))
  replace HR := Lib.hid (HR.out.below hb)
  clear hb
  go_wp2_with fail
  refine (rcheck_at a0 len0 cap0 K E z0 _ HR.out HRN hRl HK).mono ?_
  rintro e w8 ⟨rfl, rfl⟩
  go_wp2_with fail
  refine (name_at a0 len0 cap0 S F z0 _ HR.out HRN hRc hRl HS).mono ?_
  rintro e w9 ⟨rfl, hb⟩
  replace HB := Lib.hid (HB.out.trans (hb.mono HB.out.size))
  replace HR := Lib.hid (HR.out.below hb)
  clear hb
  go_wp2_with fail
  refine (rname_at a0 len0 cap0 S F z0 _ HR.out HRN hRl HS).mono ?_
  rintro e wa ⟨rfl, rfl⟩
  go_wp2_with fail
  refine (awake12_any _).mono ?_
  rintro e wb ⟨rfl, hb⟩
  replace HB := Lib.hid (HB.out.trans (hb.mono HB.out.size))
  clear hb
  go_wp2
  go_ret
  exact ⟨rfl, HB.out⟩

end Go.Proofs.Ytebhliepncmghaa.splitCheckW
