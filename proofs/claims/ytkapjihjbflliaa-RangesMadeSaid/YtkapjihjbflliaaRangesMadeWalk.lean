/-
  The walk of RangesMade.
-/
import Derived.Test.YtkapjihjbflliaaRanLaw
namespace Go.Proofs.Ytkapjihjbflliaa.rangesMadeW
open Go.RowKit

set_option maxHeartbeats 2000000 in
theorem walk (a0 : Option Addr) (len0 cap0 : Nat) (z0 : List Int) (a1 : Option Addr) (len1 cap1 : Nat) (z1 : List Int) (lo x from_ to_ value : Int) (w : World) (w0 : IsRow .i64 w a0 len0 cap0 z0) (w1 : IsRow .i64 w a1 len1 cap1 z1)
    (_ : (Lit.int .i64 lo).wf = true) (_ : (Lit.int .i64 x).wf = true) (_ : (Lit.int .i64 from_).wf = true) (_ : (Lit.int .i64 to_).wf = true) (_ : (Lit.int .i64 value).wf = true) :
    Calls Try.prog 4 #[.slice a0 len0 cap0, .slice a1 len1 cap1, .int .i64 lo, .int .i64 x, .int .i64 from_, .int .i64 to_, .int .i64 value] w fun e w' => e = .returned (.bool true) ∧ Below w.heap.size w w' := by
  obtain ⟨zs, hz, hzl, hzs, _⟩ := w0.inn
  obtain ⟨us, hu, hul, hus, _⟩ := w1.inn
  simp only [IntKind.bits] at hzl hul
  have hz1 : len0 ≤ 17592186043904 := by omega
  have hu1 : len1 ≤ 17592186043904 := by omega
  have HZ := Lib.hid hz.symm
  have HU := Lib.hid hu.symm
  have HZI := Lib.hid hzs
  have HUI := Lib.hid hus
  clear hz hu hzs hus w0 w1 hzl hul
  obtain ⟨A, hA⟩ : ∃ A, Hid (spansS zs = A) := ⟨_, rfl⟩
  obtain ⟨B, hB⟩ : ∃ B, Hid (spansS us = B) := ⟨_, rfl⟩
  have hvA := spansS_valid zs
  have hvB := spansS_valid us
  rw [hA.out] at hvA
  rw [hB.out] at hvB
  have hlA : Hid (A.length ≤ maxLen) := by have := valid_len hvA; unfold Hid maxLen; omega
  have hlB : Hid (B.length ≤ maxLen) := by have := valid_len hvB; unfold Hid maxLen; omega
  have HCk : Hid (checkS A 0 1114111 = true) := by unfold Hid; rw [check_all]; exact hvA
  obtain ⟨x0, hx, x1, x2⟩ := pick_named from_ 50 (by omega)
  obtain ⟨l9, hl9, p1, p2⟩ := pick_named lo 9 (by omega)
  obtain ⟨l30, hl30, p3, p4⟩ := pick_named lo 30 (by omega)
  obtain ⟨c60, hc60, p5, p6⟩ := pick_named x 60 (by omega)
  obtain ⟨t20, ht20, p7, p8⟩ := pick_named to_ 20 (by omega)
  obtain ⟨v3, hv3, p9, p10⟩ := pick_named value 3 (by omega)
  clear hvA hvB
  go_enter Try.func4, Try.ntmps4
  go_wp2_with fail
  refine (kspans_at a0 cap0 len0 zs A _ HZI.out HZ hz1 hA).mono ?_
  rintro e w2 ⟨pa, ca, rfl, _, ia, hb⟩
  have HUI2 := Lib.hid (HUI.out.below hb)
  have HBl := Lib.hid hb
  clear hb
  go_wp2_with fail
  refine (kspans_at a1 cap1 len1 us B _ HUI2.out HU hu1 hB).mono ?_
  rintro e w3 ⟨pb, cb, rfl, sb, ib, hb⟩
  have hcb : B.length ≤ cb ∧ (pb = none → cb = 0) := sb.out.caps
  obtain ⟨hcb, hcb0⟩ := hcb
  have HCB0 := Lib.hid hcb0
  replace ia := Lib.hid (ia.out.below hb)
  replace HBl := Lib.hid (HBl.out.trans (hb.mono HBl.out.size))
  clear hb hcb0
  go_wp2_with fail
  refine (pick_at from_ 50 x0 _ (by omega) (by omega) hx).mono ?_
  rintro e w4 ⟨rfl, rfl⟩
  go_wp2_with fail
  refine (awake_any _).mono ?_
  rintro e w4 ⟨rfl, hb⟩
  replace ia := Lib.hid (ia.out.below hb)
  replace ib := Lib.hid (ib.out.below hb)
  replace HBl := Lib.hid (HBl.out.trans (hb.mono HBl.out.size))
  clear hb
  go_wp2_with fail
  refine (check_at pa _ ca A 0 1114111 true _ rfl hlA.out ia.out HCk).mono ?_
  rintro e w5 ⟨rfl, hb⟩
  replace ia := Lib.hid (ia.out.below hb)
  replace ib := Lib.hid (ib.out.below hb)
  replace HBl := Lib.hid (HBl.out.trans (hb.mono HBl.out.size))
  clear hb
  go_wp2_with fail
  refine (pick_at lo 9 l9 _ (by omega) (by omega) hl9).mono ?_
  rintro e w6 ⟨rfl, rfl⟩
  go_wp2_with fail
  refine (pick_at lo 30 l30 _ (by omega) (by omega) hl30).mono ?_
  rintro e w6 ⟨rfl, rfl⟩
  go_wp2_with fail
  refine (pick_at x 60 c60 _ (by omega) (by omega) hc60).mono ?_
  rintro e w6 ⟨rfl, rfl⟩
  go_wp2_with fail
  refine (pick_at to_ 20 t20 _ (by omega) (by omega) ht20).mono ?_
  rintro e w6 ⟨rfl, rfl⟩
  go_wp2_with fail
  refine (pick_at value 3 v3 _ (by omega) (by omega) hv3).mono ?_
  rintro e w6 ⟨rfl, rfl⟩
  go_wp2_with fail
  refine (agrees_any pa pb _ _ ca cb A B _ _ _ _ _ _ _ rfl rfl hlA.out hlB.out hcb HCB0 ia.out ib.out).mono ?_
  rintro e w6 ⟨rfl, hb⟩
  replace HBl := Lib.hid (HBl.out.trans (hb.mono HBl.out.size))
  clear hb
  go_wp2
  go_ret
  exact ⟨rfl, HBl.out⟩

end Go.Proofs.Ytkapjihjbflliaa.rangesMadeW
