/-
  The walk of AlabelBack.
-/
import Derived.Test.YtmnnpfohjffniaaPkZZF
set_option linter.unusedSimpArgs false
set_option linter.unusedVariables false
namespace Go.Proofs.Ytmnnpfohjffniaa.alabelBackW
open Go.RowKit

set_option maxRecDepth 100000 in
set_option maxHeartbeats 2000000 in
theorem walk (a0 : Option Addr) (len0 cap0 : Nat) (z0 : List Int) (w : World) (w0 : IsRow .i64 w a0 len0 cap0 z0) :
    Calls Try.prog 4 #[.slice a0 len0 cap0] w fun e w' => e = .returned (.bool true) ∧ Below w.heap.size w w' := by
  obtain ⟨zs, hzn, hzl, hzs, _⟩ := w0.inn
  simp only [IntKind.bits] at hzl
  have HZ := Lib.hid hzs
  have HZN : Hid (zs.length = len0) := hzn.symm
  have hlb : len0 ≤ 17592186043904 := by omega
  obtain ⟨xs, hX⟩ : ∃ xs, wordF zs = xs := ⟨_, rfl⟩
  obtain ⟨hx1, hx6⟩ := wordF_len zs
  obtain ⟨hsc, hgd⟩ := wordF_good zs
  rw [hX] at hx1 hx6 hsc hgd
  have hne : xs ≠ [] := fun e => by rw [e] at hx1; simp at hx1
  obtain ⟨X, er, hL⟩ : ∃ X er, labS xs = (X, er) := ⟨_, _, rfl⟩
  obtain ⟨S, hS⟩ : ∃ S, strOfNums X = S := ⟨_, rfl⟩
  have hSn : nums S = X := by rw [← hS]; exact nums_of X (labS_byte hL (fun Y f h => (encP_byteA h).1))
  have hSs : S.size = X.length := by rw [← hS, strOfNums_size]
  obtain ⟨n, hn⟩ : ∃ n, xs.length = n := ⟨_, rfl⟩
  have hn6 : n ≤ 6 := by omega
  have hcase : (er = 0 ∧ ptsS X = (xs, 0) ∧ 1 ≤ S.size ∧ S.size ≤ 63) ∨ (er = 11 ∧ S = ByteArray.mk #[] ∧ ptsS X = ([], 10)) := by
    rcases word_lab hsc (by omega) hne with h | h
    · obtain ⟨b1, b2, b3⟩ := ala_back hsc (by omega) hne hgd h
      rw [hL] at h b1 b2 b3
      simp only at h b1 b2 b3
      exact .inl ⟨h, b1, by omega, by omega⟩
    · rw [hL] at h
      injection h with h1 h2
      subst h1
      exact .inr ⟨h2, by rw [← hS]; rfl, rfl⟩
  have HX := Lib.hid hX
  have HL := Lib.hid hL
  have HS := Lib.hid hS
  have HN := Lib.hid hn
  have HSN := Lib.hid hSn
  clear hX hx1 hx6 hsc hgd hne hL hS hSn hSs hzl hzn hzs w0 hn
  go_enter Try.func4, Try.ntmps4
  go_wp2_with fail
  refine (kwordsN_at a0 len0 cap0 zs xs _ HZ.out HZN hlb HX).mono ?_
  rintro e w1 ⟨v1, rfl, hi1, hb1⟩
  obtain ⟨p1, c1, rfl, hin1, hc1⟩ := ints_capA hi1
  rw [HN.out] at hc1
  rw [HN.out]
  have HI := Lib.hid hin1
  have HB := Lib.hid hb1
  clear hi1 hin1 hb1
  go_wp2_with fail
  refine (alab_at p1 n c1 xs X er S _ HI.out HN hc1 (by omega) HL HS).mono ?_
  rintro e w2 ⟨rfl, hb2⟩
  replace HI := Lib.hid (HI.out.below hb2)
  replace HB := Lib.hid (HB.out.trans (hb2.mono HB.out.size))
  clear hb2
  rcases hcase with ⟨rfl, hp, hs1, hs63⟩ | ⟨rfl, rfl, hp⟩
  · have HP : Hid (ptsS (nums S) = (xs, 0)) := by unfold Hid; rw [HSN.out]; exact hp
    have d63 : decide ((S.size : Int) ≤ 63) = true := decide_eq_true (by omega)
    have d64 : decide (S.size ≤ 63) = true := decide_eq_true hs63
    clear hp
    go_wp2_with fail
    refine (adecode_at S xs 0 _ (by omega) HP).mono ?_
    rintro e w3 ⟨v3, rfl, hi3, hb3⟩
    obtain ⟨p3, c3, rfl, hin3, hc3⟩ := ints_capA hi3
    rw [HN.out]
    have HI3 := Lib.hid hin3
    replace HI := Lib.hid (HI.out.below hb3)
    replace HB := Lib.hid (HB.out.trans (hb3.mono HB.out.size))
    clear hi3 hin3 hb3 hc3
    go_wp2_with fail
    refine (awake11_any _).mono ?_
    rintro e w4 ⟨rfl, hb4⟩
    replace HI := Lib.hid (HI.out.below hb4)
    replace HI3 := Lib.hid (HI3.out.below hb4)
    replace HB := Lib.hid (HB.out.trans (hb4.mono HB.out.size))
    clear hb4
    go_wp2_with fail
    refine (same11_at _ _ _ _ _ _ xs _ HI3.out HI.out (by rw [HN.out]; unfold maxLen; omega) HN.out HN.out).mono ?_
    rintro e w5 ⟨rfl, hb5⟩
    replace HB := Lib.hid (HB.out.trans (hb5.mono HB.out.size))
    clear hb5
    go_wp2
    go_ret
    exact ⟨rfl, HB.out⟩
  · have HP : Hid (ptsS (nums (ByteArray.mk #[])) = ([], 10)) := by unfold Hid; rw [HSN.out]; exact hp
    clear hp
    go_wp2_with fail
    refine (adecode_at (ByteArray.mk #[]) [] 10 _ (by decide) HP).mono ?_
    rintro e w3 ⟨v3, rfl, hi3, hb3⟩
    obtain ⟨p3, c3, rfl, hin3, hc3⟩ := ints_capA hi3
    replace HB := Lib.hid (HB.out.trans (hb3.mono HB.out.size))
    clear hi3 hin3 hb3 hc3
    go_wp2_with fail
    refine (awake11_any _).mono ?_
    rintro e w4 ⟨rfl, hb4⟩
    replace HB := Lib.hid (HB.out.trans (hb4.mono HB.out.size))
    clear hb4
    go_wp2
    go_ret
    exact ⟨rfl, HB.out⟩

end Go.Proofs.Ytmnnpfohjffniaa.alabelBackW
