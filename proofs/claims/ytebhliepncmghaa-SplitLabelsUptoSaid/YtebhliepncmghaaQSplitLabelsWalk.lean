/-
  The walk of SplitLabels.
-/
import Derived.Test.YtebhliepncmghaaQSplLaw
set_option linter.unusedSimpArgs false
set_option linter.unusedVariables false
namespace Go.Proofs.Ytebhliepncmghaa.splitLabelsW
open Go.RowKit
set_option linter.unusedVariables false

theorem isRow_capL {t : IntKind} {w : World} {a : Option Addr} {len cap : Nat} {zs : List Int} (h : IsRow t w a len cap zs) : len ≤ cap := by
  rcases h with ⟨rfl, rfl, rfl, rfl⟩ | ⟨x, rfl, h1, h2, h3, h4, h5⟩
  · exact Nat.le_refl _
  · exact h1

set_option maxRecDepth 100000 in
set_option maxHeartbeats 4000000 in
theorem walk (a0 : Option Addr) (len0 cap0 : Nat) (z0 : List Int) (a1 : Option Addr) (len1 cap1 : Nat) (z1 : List (List Int)) (a2 : ByteArray) (a3 : Option Addr) (len3 cap3 : Nat) (z3 : List Int) (w : World)
    (w0 : IsRow .i64 w a0 len0 cap0 z0) (u0 : len0 ≤ 1048576) (w1 : IsLists w a1 len1 cap1 z1) (w2 : a2.size ≤ 1048576) (w3 : IsRow .i64 w a3 len3 cap3 z3) (u3 : len3 ≤ 1048576) :
    Calls Try.prog 3 #[.slice a0 len0 cap0, .slice a1 len1 cap1, .string a2, .slice a3 len3 cap3] w fun e w' => e = .returned (.bool true) ∧ Below w.heap.size w w' := by
  have hcap0 := isRow_capL w0
  obtain ⟨ls, hln, hll, hls, _⟩ := w0.inn
  obtain ⟨zs, hzn, hzl, hzs, _⟩ := w3.inn
  obtain ⟨hm, hmn, hmc, hm1, hmj⟩ := w1
  have HL := Lib.hid hls
  have HLN : Hid (ls.length = len0) := hln.symm
  have HZ := Lib.hid hzs
  have HZN : Hid (zs.length = len3) := hzn.symm
  have HM := Lib.hid hm
  have HMN := Lib.hid hmn
  obtain ⟨X, hX⟩ : ∃ X, joinD z1 = X := ⟨_, rfl⟩
  have HX := Lib.hid hX
  have HXL : Hid (X.length ≤ 1099511627776) := by unfold Hid; rw [← hX]; omega
  have HXM : Hid (X.length ≤ 4194304) := by unfold Hid; rw [← hX]; exact hmj
  obtain ⟨T, hT⟩ : ∃ T, strsD a2 = T := ⟨_, rfl⟩
  have HT := Lib.hid hT
  have HTL : Hid (T.length ≤ 1048577) := by
    unfold Hid; rw [← hT]; unfold strsD; rw [List.length_map]
    have := cutD_num (nums a2)
    rw [nums_length] at this; omega
  obtain ⟨D, hD⟩ : ∃ D, cutD ls = D := ⟨_, rfl⟩
  have HD := Lib.hid hD
  have HDL : Hid (D.length ≤ 1048577) := by unfold Hid; rw [← hD]; have := cutD_num ls; omega
  have HDA : Hid (∀ k, k < D.length → (D.getD k []).length ≤ maxLen) := fun k hk => by
    have h1 := cutD_lab ls (D.getD k []) (by rw [hD]; simp [hk])
    unfold maxLen; omega
  obtain ⟨ps, hP⟩ : ∃ ps, pointsF zs = ps := ⟨_, rfl⟩
  have HP := Lib.hid hP
  have HPL : Hid (ps.length ≤ 10) := by unfold Hid; rw [← hP]; exact pointsF_len zs
  obtain ⟨G, hG⟩ : ∃ G, cutD ps = G := ⟨_, rfl⟩
  have HG := Lib.hid hG
  have HGL : Hid (G.length ≤ 11) := by unfold Hid; rw [← hG]; have := cutD_num ps; have := HPL.out; omega
  have HGA : Hid (∀ k, k < G.length → (G.getD k []).length ≤ maxLen) := fun k hk => by
    have h1 := cutD_lab ps (G.getD k []) (by rw [hG]; simp [hk])
    have := HPL.out
    unfold maxLen; omega
  clear hX hT hD hP hG hln hll hls hzn hzl hzs hm hmn hmj w0 w3
  go_enter Try.func3, Try.ntmps3
  go_wp2_with fail
  refine (kpoints_at a3 len3 cap3 zs ps _ HZ.out HZN (by omega) HP).mono ?_
  rintro e w4 ⟨v4, rfl, ho4, hb⟩
  obtain ⟨pp, pc, rfl, hpi, hpc⟩ := ints_capL ho4
  obtain ⟨pn, hpn⟩ : ∃ pn, ps.length = pn := ⟨_, rfl⟩
  have HPI := Lib.hid hpi
  have HPN := Lib.hid hpn
  have hp10 : pn ≤ 10 := by rw [← hpn]; exact HPL.out
  rw [hpn] at hpc ⊢
  have HB := Lib.hid hb
  replace HL := Lib.hid (HL.out.below hb)
  replace HM := Lib.hid (HM.out.below hb)
  clear ho4 hpi hpn hb HZ
  go_wp2_with fail
  refine (awake12_any _).mono ?_
  rintro e w5 ⟨rfl, hb⟩
  replace HB := Lib.hid (HB.out.trans (hb.mono HB.out.size))
  replace HL := Lib.hid (HL.out.below hb)
  replace HM := Lib.hid (HM.out.below hb)
  replace HPI := Lib.hid (HPI.out.below hb)
  clear hb
  go_wp2_with fail
  refine (labels_at a0 len0 cap0 ls _ HL.out HLN hcap0 (by omega)).mono ?_
  rintro e w6 ⟨g6, c6, rfl, hn6, hb⟩
  rw [HD.out] at hn6 ⊢
  have HN6 := Lib.hid hn6.inn
  replace HB := Lib.hid (HB.out.trans (hb.mono HB.out.size))
  replace HL := Lib.hid (HL.out.below hb)
  replace HM := Lib.hid (HM.out.below hb)
  replace HPI := Lib.hid (HPI.out.below hb)
  clear hb hn6
  go_wp2_with fail
  refine (rlabels_at a0 len0 cap0 ls _ HL.out HLN (by omega)).mono ?_
  rintro e w7 ⟨g7, c7, rfl, hn7, hb⟩
  rw [HD.out] at hn7 ⊢
  have HN7 := Lib.hid hn7.inn
  replace HB := Lib.hid (HB.out.trans (hb.mono HB.out.size))
  replace HN6 := Lib.hid (HN6.out.below hb)
  replace HM := Lib.hid (HM.out.below hb)
  replace HPI := Lib.hid (HPI.out.below hb)
  clear hb hn7
  go_wp2_with fail
  refine (samels_at _ _ c6 c7 D.length D.length D _ HN6.out HN7.out rfl rfl (by have := HDL.out; unfold maxLen; omega) HDA).mono ?_
  rintro e w8 ⟨rfl, hb⟩
  replace HB := Lib.hid (HB.out.trans (hb.mono HB.out.size))
  replace HM := Lib.hid (HM.out.below hb)
  replace HPI := Lib.hid (HPI.out.below hb)
  clear hb HN6 HN7
  go_wp2_with fail
  refine (labels_at pp pn pc ps _ HPI.out HPN hpc (by omega)).mono ?_
  rintro e w9 ⟨g6, c6, rfl, hn6, hb⟩
  rw [HG.out] at hn6 ⊢
  have HN6 := Lib.hid hn6.inn
  replace HB := Lib.hid (HB.out.trans (hb.mono HB.out.size))
  replace HM := Lib.hid (HM.out.below hb)
  replace HPI := Lib.hid (HPI.out.below hb)
  clear hb hn6
  go_wp2_with fail
  refine (rlabels_at pp pn pc ps _ HPI.out HPN (by omega)).mono ?_
  rintro e wa ⟨g7, c7, rfl, hn7, hb⟩
  rw [HG.out] at hn7 ⊢
  have HN7 := Lib.hid hn7.inn
  replace HB := Lib.hid (HB.out.trans (hb.mono HB.out.size))
  replace HN6 := Lib.hid (HN6.out.below hb)
  replace HM := Lib.hid (HM.out.below hb)
  clear hb hn7 HPI
  go_wp2_with fail
  refine (samels_at _ _ c6 c7 G.length G.length G _ HN6.out HN7.out rfl rfl (by have := HGL.out; unfold maxLen; omega) HGA).mono ?_
  rintro e wb ⟨rfl, hb⟩
  replace HB := Lib.hid (HB.out.trans (hb.mono HB.out.size))
  replace HM := Lib.hid (HM.out.below hb)
  clear hb HN6 HN7
  go_wp2_with fail
  refine (join_at a1 len1 cap1 z1 X _ HM.out HMN hmc (by omega) HX HXL).mono ?_
  rintro e wc ⟨v6, rfl, ho6, hb⟩
  obtain ⟨q6, c6, rfl, hi6, _⟩ := ints_capL ho6
  have HI6 := Lib.hid hi6
  replace HB := Lib.hid (HB.out.trans (hb.mono HB.out.size))
  replace HM := Lib.hid (HM.out.below hb)
  clear hb ho6 hi6
  go_wp2_with fail
  refine (rjoin_at a1 len1 cap1 z1 X _ HM.out HMN (by omega) HX HXL).mono ?_
  rintro e wd ⟨v7, rfl, ho7, hb⟩
  obtain ⟨q7, c7, rfl, hi7, _⟩ := ints_capL ho7
  have HI7 := Lib.hid hi7
  replace HB := Lib.hid (HB.out.trans (hb.mono HB.out.size))
  replace HI6 := Lib.hid (HI6.out.below hb)
  clear hb ho7 hi7 HM
  go_wp2_with fail
  refine (sameI_at q6 q7 c6 c7 X.length X.length X _ HI6.out HI7.out (by have := HXM.out; unfold maxLen; omega) rfl rfl).mono ?_
  rintro e we ⟨rfl, hb⟩
  replace HB := Lib.hid (HB.out.trans (hb.mono HB.out.size))
  clear hb HI6 HI7
  go_wp2_with fail
  refine (strings_at a2 T _ (by omega) HT).mono ?_
  rintro e wf ⟨v6, rfl, ho6, hb⟩
  obtain ⟨q6, c6, rfl, hi6, _⟩ := ho6.inn
  have HI6 := Lib.hid hi6
  replace HB := Lib.hid (HB.out.trans (hb.mono HB.out.size))
  clear hb ho6 hi6
  go_wp2_with fail
  refine (rstrings_at a2 T _ (by omega) HT).mono ?_
  rintro e wg ⟨v7, rfl, ho7, hb⟩
  obtain ⟨q7, c7, rfl, hi7, _⟩ := ho7.inn
  have HI7 := Lib.hid hi7
  replace HB := Lib.hid (HB.out.trans (hb.mono HB.out.size))
  replace HI6 := Lib.hid (HI6.out.below hb)
  clear hb ho7 hi7
  go_wp2_with fail
  refine (sames_at q6 q7 c6 c7 T.length T.length T _ HI6.out HI7.out rfl rfl (by have := HTL.out; unfold maxLen; omega)).mono ?_
  rintro e wh ⟨rfl, hb⟩
  replace HB := Lib.hid (HB.out.trans (hb.mono HB.out.size))
  clear hb HI6 HI7
  go_wp2
  go_ret
  exact ⟨rfl, HB.out⟩

end Go.Proofs.Ytebhliepncmghaa.splitLabelsW
