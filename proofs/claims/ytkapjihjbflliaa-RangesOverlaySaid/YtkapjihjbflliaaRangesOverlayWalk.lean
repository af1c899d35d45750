/-
  The walk of RangesOverlay.
-/
import Derived.Test.YtkapjihjbflliaaRanLaw
namespace Go.Proofs.Ytkapjihjbflliaa.rangesOverlayW
open Go.RowKit

theorem named (l : List Sp) (c : Int) : ∃ v b, Hid (findS l c = (v, b)) := ⟨_, _, rfl⟩

set_option maxRecDepth 100000 in
set_option maxHeartbeats 4000000 in
theorem walk (a0 : Option Addr) (len0 cap0 : Nat) (z0 : List Int) (a1 : Option Addr) (len1 cap1 : Nat) (z1 : List Int) (w : World) (w0 : IsRow .i64 w a0 len0 cap0 z0) (w1 : IsRow .i64 w a1 len1 cap1 z1) :
    Calls Try.prog 6 #[.slice a0 len0 cap0, .slice a1 len1 cap1] w fun e w' => e = .returned (.bool true) ∧ Below w.heap.size w w' := by
  obtain ⟨zs, hz, hzl, hzs, _⟩ := w0.inn
  obtain ⟨us, hu, hul, hus, _⟩ := w1.inn
  simp only [IntKind.bits] at hzl hul
  have hz1 : len0 ≤ 17592186043904 := by omega
  have hu1 : len1 ≤ 17592186043904 := by omega
  have HZ := Lib.hid hz.symm
  have HU := Lib.hid hu.symm
  have HZI := Lib.hid hzs
  have HUI := Lib.hid hus
  clear hz hu hzs hus w0 w1 hzl hul
  obtain ⟨A, hA⟩ : ∃ A, Hid (spansS zs = A) := ⟨_, rfl⟩
  obtain ⟨B, hB⟩ : ∃ B, Hid (spansS us = B) := ⟨_, rfl⟩
  have hvA := spansS_valid zs
  have hvB := spansS_valid us
  have hnA : ∀ c, 60 ≤ c → val A c = none := by rw [← hA.out]; exact spansS_none zs
  have hnB : ∀ c, 60 ≤ c → val B c = none := by rw [← hB.out]; exact spansS_none us
  rw [hA.out] at hvA
  rw [hB.out] at hvB
  have hlA : Hid (A.length ≤ maxLen) := by have := valid_len hvA; unfold Hid maxLen; omega
  have hlB : Hid (B.length ≤ maxLen) := by have := valid_len hvB; unfold Hid maxLen; omega
  obtain ⟨O, o1, o2, o3, o4⟩ := over_ok2 hvA hvB hnA hnB
  have hlO : Hid (O.length ≤ maxLen) := by have := valid_len o2; unfold Hid maxLen; omega
  have O1 := Lib.hid o1
  have O3 := Lib.hid o3
  have O4 := Lib.hid o4
  clear hvA hvB hnA hnB o1 o2 o3 o4
  go_enter Try.func6, Try.ntmps6
  go_wp2_with fail
  refine (kspans_at a0 cap0 len0 zs A _ HZI.out HZ hz1 hA).mono ?_
  rintro e w2 ⟨pa, ca, rfl, _, ia, hb⟩
  have HUI2 := Lib.hid (HUI.out.below hb)
  have HBl := Lib.hid hb
  clear hb
  go_wp2_with fail
  refine (kspans_at a1 cap1 len1 us B _ HUI2.out HU hu1 hB).mono ?_
  rintro e w3 ⟨pb, cb, rfl, sb, ib, hb⟩
  obtain ⟨hcb, hcb0⟩ := sb.out.caps
  have HCB0 := Lib.hid hcb0
  replace ia := Lib.hid (ia.out.below hb)
  replace HBl := Lib.hid (HBl.out.trans (hb.mono HBl.out.size))
  clear hb hcb0
  go_wp2_with fail
  refine (overlay_at pa pb _ _ ca cb A B O 0 _ rfl rfl hlA.out hlB.out hcb HCB0 ia.out ib.out O1).mono ?_
  rintro e w4 ⟨po, co, rfl, _, io, hb⟩
  replace ia := Lib.hid (ia.out.below hb)
  replace ib := Lib.hid (ib.out.below hb)
  replace HBl := Lib.hid (HBl.out.trans (hb.mono HBl.out.size))
  clear hb
  go_wp2
  go_loopw [9] (fun cv wr => ∃ z : Int, -1 ≤ z ∧ z ≤ 90 ∧ cv = .int .i64 z ∧ Hid (Below w4.heap.size w4 wr)) (fun cv _ => (90 - intOf cv).toNat)
  case atStart => exact ⟨-1, by omega, by omega, rfl, Below.refl _ _⟩
  case round =>
    obtain ⟨z, z1, z2, rfl, hbel⟩ := hrel
    have HX := Lib.hid (HBl.out.trans (hbel.out.mono HBl.out.size))
    by_cases hlt : z < 90
    · obtain ⟨v, ok, hF⟩ := named B z
      cases ok with
      | true =>
        have FO : Hid (findS O z = (v, true)) := O3.out z v hF.out
        go_wp2_with fail
        refine (rfind_at pb _ cb B z v true _ rfl hlB.out (ib.out.below hbel.out) hF).mono ?_
        rintro e w5 ⟨rfl, hb⟩
        have hb5 := Lib.hid (hbel.out.trans (hb.mono hbel.out.size))
        clear hb
        go_wp2_with fail
        refine (find_at po _ co O z v true _ rfl hlO.out (io.out.below hb5.out) FO).mono ?_
        rintro e w6 ⟨rfl, hb⟩
        have hb6 := Lib.hid (hb5.out.trans (hb.mono hb5.out.size))
        clear hb
        go_wp2
        go_roundw
        case rel => exact ⟨z + 1, by omega, by omega, by go_num, hb6⟩
        case measure => simp [intOf]; omega
      | false =>
        obtain ⟨v2, ok2, hF2⟩ := named A z
        have FO : Hid (findS O z = (v2, ok2)) := by unfold Hid; rw [O4.out z v hF.out, hF2.out]
        go_wp2_with fail
        refine (rfind_at pb _ cb B z v false _ rfl hlB.out (ib.out.below hbel.out) hF).mono ?_
        rintro e w5 ⟨rfl, hb⟩
        have hb5 := Lib.hid (hbel.out.trans (hb.mono hbel.out.size))
        clear hb
        go_wp2_with fail
        refine (rfind_at pa _ ca A z v2 ok2 _ rfl hlA.out (ia.out.below hb5.out) hF2).mono ?_
        rintro e w6 ⟨rfl, hb⟩
        have hb6 := Lib.hid (hb5.out.trans (hb.mono hb5.out.size))
        clear hb
        go_wp2_with fail
        refine (find_at po _ co O z v2 ok2 _ rfl hlO.out (io.out.below hb6.out) FO).mono ?_
        rintro e w7 ⟨rfl, hb⟩
        have hb7 := Lib.hid (hb6.out.trans (hb.mono hb6.out.size))
        clear hb
        go_wp2
        go_roundw
        case rel => exact ⟨z + 1, by omega, by omega, by go_num, hb7⟩
        case measure => simp [intOf]; omega
    · go_wp2_with fail
      refine (awake_any _).mono ?_
      rintro e w5 ⟨rfl, hb⟩
      have hb5 := Lib.hid (HX.out.trans (hb.mono HX.out.size))
      clear hb
      go_wp2
      go_ret
      exact ⟨rfl, hb5.out⟩

end Go.Proofs.Ytkapjihjbflliaa.rangesOverlayW
