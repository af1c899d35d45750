/-
  The walk of RangesSet.
-/
import Derived.Test.YtkapjihjbflliaaRanLaw
namespace Go.Proofs.Ytkapjihjbflliaa.rangesSetW
open Go.RowKit

theorem named (l : List Sp) (c : Int) : ∃ v b, Hid (findS l c = (v, b)) := ⟨_, _, rfl⟩

set_option maxRecDepth 100000 in
set_option maxHeartbeats 4000000 in
theorem walk (a0 : Option Addr) (len0 cap0 : Nat) (z0 : List Int) (from_ to_ value : Int) (w : World) (w0 : IsRow .i64 w a0 len0 cap0 z0)
    (_ : (Lit.int .i64 from_).wf = true) (_ : (Lit.int .i64 to_).wf = true) (_ : (Lit.int .i64 value).wf = true) :
    Calls Try.prog 5 #[.slice a0 len0 cap0, .int .i64 from_, .int .i64 to_, .int .i64 value] w fun e w' => e = .returned (.bool true) ∧ Below w.heap.size w w' := by
  obtain ⟨zs, hz, hzl, hzs, _⟩ := w0.inn
  simp only [IntKind.bits] at hzl
  have hz1 : len0 ≤ 17592186043904 := by omega
  have HZ := Lib.hid hz.symm
  have HZI := Lib.hid hzs
  clear hz hzs w0 hzl
  obtain ⟨A, hA⟩ : ∃ A, Hid (spansS zs = A) := ⟨_, rfl⟩
  have hvA := spansS_valid zs
  have hnA : ∀ c, 60 ≤ c → val A c = none := by rw [← hA.out]; exact spansS_none zs
  rw [hA.out] at hvA
  have hlA : Hid (A.length ≤ maxLen) := by have := valid_len hvA; unfold Hid maxLen; omega
  obtain ⟨x, hx, x1, x2⟩ := pick_named from_ 50 (by omega)
  obtain ⟨y0, hy, y1, y2⟩ := pick_named to_ 20 (by omega)
  obtain ⟨S, s1, s2, s3, s4⟩ := set_ok (v := value) hvA hnA x1 (show x ≤ x + y0 by omega) (by omega)
  obtain ⟨T, t1, t2, t3, t4⟩ := clear_ok hvA hnA x1 (show x ≤ x + y0 by omega) (by omega)
  have hlS : Hid (S.length ≤ maxLen) := by have := valid_len s2; unfold Hid maxLen; omega
  have hlT : Hid (T.length ≤ maxLen) := by have := valid_len t2; unfold Hid maxLen; omega
  have S1 := Lib.hid s1
  have S3 := Lib.hid s3
  have S4 := Lib.hid s4
  have T1 := Lib.hid t1
  have T3 := Lib.hid t3
  have T4 := Lib.hid t4
  clear hvA hnA s1 s2 s3 s4 t1 t2 t3 t4
  go_enter Try.func5, Try.ntmps5
  go_wp2_with fail
  refine (kspans_at a0 cap0 len0 zs A _ HZI.out HZ hz1 hA).mono ?_
  rintro e w2 ⟨pa, ca, rfl, _, ia, hb⟩
  have HBl := Lib.hid hb
  clear hb
  go_wp2_with fail
  refine (pick_at from_ 50 x _ (by omega) (by omega) hx).mono ?_
  rintro e w3 ⟨rfl, rfl⟩
  go_wp2_with fail
  refine (pick_at to_ 20 y0 _ (by omega) (by omega) hy).mono ?_
  rintro e w3 ⟨rfl, rfl⟩
  go_wp2_with fail
  refine (set_at pa _ ca A S x (x + y0) value 0 _ rfl hlA.out ia.out S1).mono ?_
  rintro e w3 ⟨ps, cs, rfl, _, is, hb⟩
  replace ia := Lib.hid (ia.out.below hb)
  replace HBl := Lib.hid (HBl.out.trans (hb.mono HBl.out.size))
  clear hb
  go_wp2_with fail
  refine (clear_at pa _ ca A T x (x + y0) 0 _ rfl hlA.out ia.out T1).mono ?_
  rintro e w4 ⟨pt, ct, rfl, _, it, hb⟩
  replace ia := Lib.hid (ia.out.below hb)
  replace is := Lib.hid (is.out.below hb)
  replace HBl := Lib.hid (HBl.out.trans (hb.mono HBl.out.size))
  clear hb
  go_wp2
  go_loopw [16] (fun cv wr => ∃ z : Int, -1 ≤ z ∧ z ≤ 90 ∧ cv = .int .i64 z ∧ Hid (Below w4.heap.size w4 wr)) (fun cv _ => (90 - intOf cv).toNat)
  case atStart => exact ⟨-1, by omega, by omega, rfl, Below.refl _ _⟩
  case round =>
    obtain ⟨z, z1, z2, rfl, hbel⟩ := hrel
    have HX := Lib.hid (HBl.out.trans (hbel.out.mono HBl.out.size))
    by_cases hlt : z < 90
    · obtain ⟨v, ok, hF⟩ := named A z
      by_cases hin : x ≤ z ∧ z ≤ x + y0
      · have FS : Hid (findS S z = (value, true)) := S3.out z hin.1 hin.2
        have FT : Hid (findS T z = (0, false)) := T3.out z hin.1 hin.2
        obtain ⟨i1, i2⟩ := hin
        go_wp2_with fail
        refine (rfind_at pa _ ca A z v ok _ rfl hlA.out (ia.out.below hbel.out) hF).mono ?_
        rintro e w5 ⟨rfl, hb⟩
        have hb5 := Lib.hid (hbel.out.trans (hb.mono hbel.out.size))
        clear hb
        go_wp2_with fail
        refine (find_at ps _ cs S z value true _ rfl hlS.out (is.out.below hb5.out) FS).mono ?_
        rintro e w6 ⟨rfl, hb⟩
        have hb6 := Lib.hid (hb5.out.trans (hb.mono hb5.out.size))
        clear hb
        go_wp2_with fail
        refine (find_at pt _ ct T z 0 false _ rfl hlT.out (it.out.below hb6.out) FT).mono ?_
        rintro e w7 ⟨rfl, hb⟩
        have hb7 := Lib.hid (hb6.out.trans (hb.mono hb6.out.size))
        clear hb
        go_wp2
        go_roundw
        case rel => exact ⟨z + 1, by omega, by omega, by go_num, hb7⟩
        case measure => simp [intOf]; omega
      · have FS : Hid (findS S z = (v, ok)) := by unfold Hid; rw [S4.out z hin, hF.out]
        have FT : Hid (findS T z = (v, ok)) := by unfold Hid; rw [T4.out z hin, hF.out]
        have hd : decide (x ≤ z) = false ∨ (x ≤ z ∧ decide (z ≤ x + y0) = false) := by
          by_cases h : x ≤ z
          · exact .inr ⟨h, by simp; omega⟩
          · exact .inl (by simp; omega)
        clear hin
        rcases hd with hd | ⟨hd1, hd⟩
        all_goals
          go_wp2_with fail
          refine (rfind_at pa _ ca A z v ok _ rfl hlA.out (ia.out.below hbel.out) hF).mono ?_
          rintro e w5 ⟨rfl, hb⟩
          have hb5 := Lib.hid (hbel.out.trans (hb.mono hbel.out.size))
          clear hb
          go_wp2_with fail
          refine (find_at ps _ cs S z v ok _ rfl hlS.out (is.out.below hb5.out) FS).mono ?_
          rintro e w6 ⟨rfl, hb⟩
          have hb6 := Lib.hid (hb5.out.trans (hb.mono hb5.out.size))
          clear hb
          go_wp2_with fail
          refine (find_at pt _ ct T z v ok _ rfl hlT.out (it.out.below hb6.out) FT).mono ?_
          rintro e w7 ⟨rfl, hb⟩
          have hb7 := Lib.hid (hb6.out.trans (hb.mono hb6.out.size))
          clear hb
          go_wp2
          go_roundw
          case rel => exact ⟨z + 1, by omega, by omega, by go_num, hb7⟩
          case measure => simp [intOf]; omega
    · go_wp2_with fail
      refine (awake_any _).mono ?_
      rintro e w5 ⟨rfl, hb⟩
      have hb5 := Lib.hid (HX.out.trans (hb.mono HX.out.size))
      clear hb
      go_wp2
      go_ret
      exact ⟨rfl, hb5.out⟩

end Go.Proofs.Ytkapjihjbflliaa.rangesSetW
