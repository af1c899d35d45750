/-
  The walk of MappingConcatenation (genML.py).
-/
import Derived.Test.YtnmckcfaalakoaaDoorSMaMapLaw
import Derived.Deep.RegionHeld3
set_option linter.unusedSimpArgs false
set_option linter.unusedVariables false
namespace Go.Proofs.YtnmckcfaalakoaaDoor
open Go.RowKit
set_option linter.unusedVariables false

set_option maxRecDepth 100000 in
set_option maxHeartbeats 8000000 in
theorem mappingConcatenation_walk (p0 : Option Addr) (cap0 : Nat) (zs0 : List Int) (p1 : Option Addr) (cap1 : Nat) (zs1 : List Int) (p2 : Option Addr) (cap2 : Nat) (zs2 : List Int) (w : World) (hin0 : IntsIn w p0 zs0) (hl0 : zs0.length ≤ 17592186043904) (hin1 : IntsIn w p1 zs1) (hl1 : zs1.length ≤ 17592186043904) (hin2 : IntsIn w p2 zs2) (hl2 : zs2.length ≤ 17592186043904) (hr : Rsv w) :
    Calls Tryd.prog 4 #[.slice p0 zs0.length cap0, .slice p1 zs1.length cap1, .slice p2 zs2.length cap2] w (Gives (.bool true) w) := by
  have HI0 := Lib.hid hin0
  have HL0 := Lib.hid hl0
  have HI1 := Lib.hid hin1
  have HL1 := Lib.hid hl1
  have HI2 := Lib.hid hin2
  have HL2 := Lib.hid hl2
  have HR := Lib.hid hr
  clear hin0 hl0 hin1 hl1 hin2 hl2 hr
  go_enter Tryd.func4, Tryd.ntmps4
  go_wp2_with fail
  refine (tables_any p0 cap0 zs0 _ HI0.out HL0.out).mono ?_
  rintro e w1 ⟨⟨a0, a1, a2, a3, a4, a5, a6, a7, a8, a9, a10, a11⟩, T, rfl, htv, hm, hcap1, hb1⟩
  obtain ⟨pa0, na0, qa0, hsl0⟩ : Slc a0 := htv.cat.slc
  subst hsl0
  obtain ⟨pa1, na1, qa1, hsl1⟩ : Slc a1 := htv.cls.slc
  subst hsl1
  obtain ⟨pa2, na2, qa2, hsl2⟩ : Slc a2 := htv.joi.slc
  subst hsl2
  obtain ⟨pa3, na3, qa3, hsl3⟩ : Slc a3 := htv.bid.slc
  subst hsl3
  obtain ⟨pa4, na4, qa4, hsl4⟩ : Slc a4 := htv.scr.slc
  subst hsl4
  obtain ⟨pa5, na5, qa5, hsl5⟩ : Slc a5 := htv.sta.slc
  subst hsl5
  obtain ⟨pa6, na6, qa6, hsl6⟩ : Slc a6 := htv.ign.slc
  subst hsl6
  obtain ⟨pa7, na7, qa7, hsl7⟩ : Slc a7 := htv.ext.slc
  subst hsl7
  obtain ⟨pa8, na8, qa8, hsl8⟩ : Slc a8 := htv.map.slc
  subst hsl8
  obtain ⟨pa9, na9, qa9, hsl9⟩ : Slc a9 := htv.dec.slc
  subst hsl9
  obtain ⟨pa10, na10, qa10, hsl10⟩ : Slc a10 := htv.exc.slc
  subst hsl10
  obtain ⟨pa11, na11, qa11, hsl11⟩ : Slc a11 := htv.pro.slc
  subst hsl11
  have hba1 : Below w1.heap.size w1 (w1.alloc (.cells (tabCells ⟨.slice pa0 na0 qa0, .slice pa1 na1 qa1, .slice pa2 na2 qa2, .slice pa3 na3 qa3, .slice pa4 na4 qa4, .slice pa5 na5 qa5, .slice pa6 na6 qa6, .slice pa7 na7 qa7, .slice pa8 na8 qa8, .slice pa9 na9 qa9, .slice pa10 na10 qa10, .slice pa11 na11 qa11⟩) 26)) := (Below.refl _ _).alloc (Nat.le_refl _) _
  have HT1 : Hid (TabV (w1.alloc (.cells (tabCells ⟨.slice pa0 na0 qa0, .slice pa1 na1 qa1, .slice pa2 na2 qa2, .slice pa3 na3 qa3, .slice pa4 na4 qa4, .slice pa5 na5 qa5, .slice pa6 na6 qa6, .slice pa7 na7 qa7, .slice pa8 na8 qa8, .slice pa9 na9 qa9, .slice pa10 na10 qa10, .slice pa11 na11 qa11⟩) 26)) ⟨.slice pa0 na0 qa0, .slice pa1 na1 qa1, .slice pa2 na2 qa2, .slice pa3 na3 qa3, .slice pa4 na4 qa4, .slice pa5 na5 qa5, .slice pa6 na6 qa6, .slice pa7 na7 qa7, .slice pa8 na8 qa8, .slice pa9 na9 qa9, .slice pa10 na10 qa10, .slice pa11 na11 qa11⟩ T) := htv.below hba1
  have HX1 : Hid (BoxT (w1.alloc (.cells (tabCells ⟨.slice pa0 na0 qa0, .slice pa1 na1 qa1, .slice pa2 na2 qa2, .slice pa3 na3 qa3, .slice pa4 na4 qa4, .slice pa5 na5 qa5, .slice pa6 na6 qa6, .slice pa7 na7 qa7, .slice pa8 na8 qa8, .slice pa9 na9 qa9, .slice pa10 na10 qa10, .slice pa11 na11 qa11⟩) 26)) w1.heap.size ⟨.slice pa0 na0 qa0, .slice pa1 na1 qa1, .slice pa2 na2 qa2, .slice pa3 na3 qa3, .slice pa4 na4 qa4, .slice pa5 na5 qa5, .slice pa6 na6 qa6, .slice pa7 na7 qa7, .slice pa8 na8 qa8, .slice pa9 na9 qa9, .slice pa10 na10 qa10, .slice pa11 na11 qa11⟩) := BoxT.new _ _ _
  have HB1 : Hid (Below w.heap.size w (w1.alloc (.cells (tabCells ⟨.slice pa0 na0 qa0, .slice pa1 na1 qa1, .slice pa2 na2 qa2, .slice pa3 na3 qa3, .slice pa4 na4 qa4, .slice pa5 na5 qa5, .slice pa6 na6 qa6, .slice pa7 na7 qa7, .slice pa8 na8 qa8, .slice pa9 na9 qa9, .slice pa10 na10 qa10, .slice pa11 na11 qa11⟩) 26))) := hb1.trans (hba1.mono hb1.size)
  have HM := Lib.hid hm
  have HCAP : Hid (CapOf ⟨.slice pa0 na0 qa0, .slice pa1 na1 qa1, .slice pa2 na2 qa2, .slice pa3 na3 qa3, .slice pa4 na4 qa4, .slice pa5 na5 qa5, .slice pa6 na6 qa6, .slice pa7 na7 qa7, .slice pa8 na8 qa8, .slice pa9 na9 qa9, .slice pa10 na10 qa10, .slice pa11 na11 qa11⟩) := hcap1
  clear htv hm hcap1 hb1 hba1
  simp only [tabCells] at HT1 HX1 HB1
  go_wp2_with fail
  generalize (w1.alloc (.cells #[.slice pa0 na0 qa0, .slice pa1 na1 qa1, .slice pa2 na2 qa2, .slice pa3 na3 qa3, .slice pa4 na4 qa4, .slice pa5 na5 qa5, .slice pa6 na6 qa6, .slice pa7 na7 qa7, .slice pa8 na8 qa8, .slice pa9 na9 qa9, .slice pa10 na10 qa10, .slice pa11 na11 qa11] 26)) = W at HT1 HX1 HB1 ⊢
  generalize w1.heap.size = g at HX1 ⊢
  generalize (⟨.slice pa0 na0 qa0, .slice pa1 na1 qa1, .slice pa2 na2 qa2, .slice pa3 na3 qa3, .slice pa4 na4 qa4, .slice pa5 na5 qa5, .slice pa6 na6 qa6, .slice pa7 na7 qa7, .slice pa8 na8 qa8, .slice pa9 na9 qa9, .slice pa10 na10 qa10, .slice pa11 na11 qa11⟩ : TV) = x at HT1 HX1 HCAP
  have HE : Hid (LEnv w g x T W) := ⟨HT1.out, HX1.out, HB1.out⟩
  clear HT1 HX1 HB1
  obtain ⟨xa, hXa⟩ : ∃ m, Hid (wordF zs1 = m) := ⟨_, rfl⟩
  have hna : xa.length ≤ 6 := by have := (wordF_len zs1).2; rwa [hXa.out] at this
  have HSa : Hid (xa.all scaB = true) := by unfold Hid; rw [← hXa.out]; exact wordF_sca zs1
  refine (kwordsN_at p1 zs1.length cap1 zs1 xa _ (HI1.out.below HE.out.bel) (Lib.hid rfl) HL1.out hXa).mono ?_
  rintro e wa ⟨va, rfl, hi, hb⟩
  obtain ⟨pa, ca, rfl, hia⟩ := hi.inn
  replace HE := Lib.hid (HE.out.step hb)
  have Ha := Lib.hid hia
  clear hi hb hia hXa
  go_wp2_with fail
  obtain ⟨xb, hXb⟩ : ∃ m, Hid (wordF zs2 = m) := ⟨_, rfl⟩
  have hnb : xb.length ≤ 6 := by have := (wordF_len zs2).2; rwa [hXb.out] at this
  have HSb : Hid (xb.all scaB = true) := by unfold Hid; rw [← hXb.out]; exact wordF_sca zs2
  refine (kwordsN_at p2 zs2.length cap2 zs2 xb _ (HI2.out.below HE.out.bel) (Lib.hid rfl) HL2.out hXb).mono ?_
  rintro e wb ⟨vb, rfl, hi, hb⟩
  obtain ⟨pb, cb, rfl, hib⟩ := hi.inn
  replace HE := Lib.hid (HE.out.step hb)
  replace Ha := Lib.hid (Ha.out.below hb)
  have Hb := Lib.hid hib
  clear hi hb hib hXb
  obtain ⟨U, hU⟩ : ∃ U, xa ++ xb = U := ⟨_, rfl⟩
  obtain ⟨X, Ka, Ea, hX⟩ : ∃ L K E, Hid (mapR T xa = (L, K, E)) := ⟨_, _, _, rfl⟩
  obtain ⟨Y, Kb, Eb, hY⟩ : ∃ L K E, Hid (mapR T xb = (L, K, E)) := ⟨_, _, _, rfl⟩
  obtain ⟨Z, Kz, Ez, hZ⟩ : ∃ L K E, Hid (mapR T U = (L, K, E)) := ⟨_, _, _, rfl⟩
  obtain ⟨V, hV⟩ : ∃ V, X ++ Y = V := ⟨_, rfl⟩
  have hcat := map_concat HM.out.check HSa.out HSb.out (by omega)
  rw [hU, hX.out, hY.out, hZ.out] at hcat
  simp only at hcat
  rw [hV] at hcat
  obtain ⟨hea, heb, hc1, hc2, hc3⟩ := hcat
  have hx4 : X.length ≤ 4096 := by have := mapR_len T xa; rwa [hX.out] at this
  have hy4 : Y.length ≤ 4096 := by have := mapR_len T xb; rwa [hY.out] at this
  have hz4 : Z.length ≤ 4096 := by have := mapR_len T U; rwa [hZ.out] at this
  have hul : U.length = xa.length + xb.length := by rw [← hU]; simp
  obtain ⟨na, hna⟩ : ∃ n, xa.length = n := ⟨_, rfl⟩
  obtain ⟨nb, hnb⟩ : ∃ n, xb.length = n := ⟨_, rfl⟩
  obtain ⟨nx, hnx⟩ : ∃ n, X.length = n := ⟨_, rfl⟩
  obtain ⟨ny, hny⟩ : ∃ n, Y.length = n := ⟨_, rfl⟩
  obtain ⟨nu, hnu⟩ : ∃ n, U.length = n := ⟨_, rfl⟩
  have hoa := fun W (h1 : TabV W x T) h2 h3 => map_at x T pa ca xa X Ka Ea W h1 h2 h3 (by omega) hX
  have hob := fun W (h1 : TabV W x T) h2 h3 => map_at x T pb cb xb Y Kb Eb W h1 h2 h3 (by omega) hY
  have hoz := fun pz cz W (h1 : TabV W x T) h2 h3 => map_at x T pz cz U Z Kz Ez W h1 h2 h3 (by omega) hZ
  rw [hna] at hoa hc2 hc3 ⊢
  rw [hnb] at hob ⊢
  rw [hnu] at hoz
  have HOA := Lib.hid hoa
  have HOB := Lib.hid hob
  have HOZ := Lib.hid hoz
  have HC1 := Lib.hid hc1
  have HC2 := Lib.hid hc2
  have HC3 := Lib.hid hc3
  have HEA := Lib.hid hea
  have HEB := Lib.hid heb
  have HNA := Lib.hid hna
  have HNB := Lib.hid hnb
  have HNX := Lib.hid hnx
  have HNY := Lib.hid hny
  have HNU := Lib.hid hnu
  have HUU := Lib.hid hU
  have HVV := Lib.hid hV
  have HZL : Hid (Z.length ≤ 17592186043904) := by unfold Hid; omega
  have HZ4 := Lib.hid hz4
  have hbd : na ≤ 6 ∧ nb ≤ 6 ∧ nx ≤ 4096 ∧ ny ≤ 4096 := ⟨by omega, by omega, by omega, by omega⟩
  obtain ⟨hna6, hnb6, hnx4, hny4⟩ := hbd
  clear hc1 hc2 hc3 hea heb hx4 hy4 hz4 hul hU hV hna hnb hnx hny hnu hoa hob hoz hX hY hZ HSa HSb
  obtain ⟨⟨k0, k1, k2, k3, k4, k5⟩, ⟨k6, k7, k8, k9, k10, k11⟩⟩ := HE.out.box.load
  go_wp2_with fail
  refine (HOA.out _ HE.out.tab (HR.out.below HE.out.bel) Ha.out).mono ?_
  rintro e w4 ⟨v4, rfl, hi, hb⟩
  obtain ⟨pX, cX, e4, hi4⟩ := hi.inn
  rw [HNX.out] at e4
  subst e4
  replace HE := Lib.hid (HE.out.step hb)
  replace Ha := Lib.hid (Ha.out.below hb)
  replace Hb := Lib.hid (Hb.out.below hb)
  have HX := Lib.hid hi4
  clear hi hb hi4 k0 k1 k2 k3 k4 k5 k6 k7 k8 k9 k10 k11
  obtain ⟨⟨k0, k1, k2, k3, k4, k5⟩, ⟨k6, k7, k8, k9, k10, k11⟩⟩ := HE.out.box.load
  go_wp2_with fail
  refine (HOB.out _ HE.out.tab (HR.out.below HE.out.bel) Hb.out).mono ?_
  rintro e w5 ⟨v5, rfl, hi, hb⟩
  obtain ⟨pY, cY, e5, hi5⟩ := hi.inn
  rw [HNY.out] at e5
  subst e5
  replace HE := Lib.hid (HE.out.step hb)
  replace Ha := Lib.hid (Ha.out.below hb)
  replace Hb := Lib.hid (Hb.out.below hb)
  replace HX := Lib.hid (HX.out.below hb)
  have HY := Lib.hid hi5
  clear hi hb hi5 k0 k1 k2 k3 k4 k5 k6 k7 k8 k9 k10 k11
  go_upto_region 5 with (fail)
  obtain ⟨⟨k0, k1, k2, k3, k4, k5⟩, ⟨k6, k7, k8, k9, k10, k11⟩⟩ := HE.out.box.load
  go_cut [16, 17, 18] (fun a b c wx => Hid (InV wx a Z) ∧ b = .int .i64 Kz ∧ c = .int .i64 Ez ∧ Hid (LEnv w g x T wx) ∧ Hid (IntsIn wx pX X) ∧ Hid (IntsIn wx pY Y))
  case first =>
    have HUL := HNU
    have HLA : Hid (([] : List Int).length + xa.length ≤ 17592186043904) := by unfold Hid; rw [HNA.out]; simp; omega
    have HLB : Hid ((([] : List Int) ++ xa).length + xb.length ≤ 17592186043904) := by unfold Hid; simp [HNA.out, HNB.out]; omega
    have HUV : Hid (([] : List Int) ++ xa ++ xb = U) := by unfold Hid; rw [← HUU.out]; simp
    have hd0 := drew_one w5
    have HD0 := Lib.hid hd0
    clear hd0
    go_region_held3 (boxF g x)
      (first
        | exact (HE.out.step HD0.out).box.flat
        | exact (HE.out.step hb6).box.flat
        | exact (HE.out.step hb7).box.flat
        | exact ((HE.out.step hb7).step hb9).box.flat)
      (first
        | (go_at_call 11; (with_reducible refine (HOZ.out p8 c8 _ (HE.out.step hb7).tab (HR.out.below (HE.out.step hb7).bel) hi8).mono ?_); rintro e w9 ⟨v9, rfl, ho9, hb9⟩)
        | (refine step_app_ints (by rfl) (.const (.slice none 0 0)) (.tmp 41) (by rfl) w5.heap.size (.slice none 0 0) [] (by rfl) (Ints.nil _ _) pa na ca xa HNA.out (by rfl) (Ha.out.below HD0.out) HLA.out (Nat.le_refl _) ?_; intro v6 w6 ho6 hg6; have hb6 : Below w5.heap.size w5 w6 := below_appI HD0.out (Ints.nil w5.drew w5.heap.size) (Nat.le_refl _) hg6)
        | (refine step_app_ints (by rfl) (.tmp 42) (.tmp 43) (by rfl) w5.heap.size v6 ([] ++ xa) (by rfl) ho6 pb nb cb xb HNB.out (by rfl) (Hb.out.below hb6) HLB.out hb6.size ?_; intro v7 w7 ho7 hg7; have hb7 : Below w5.heap.size w5 w7 := below_appI hb6 ho6 (Nat.le_refl _) hg7; rw [HUV.out] at ho7; obtain ⟨p8, c8, e8, hi8⟩ := ho7.inn; rw [HUL.out] at e8; subst e8)
        | fail)
    all_goals
      have hf := (HE.out.step hb7).step hb9
      have hfx := (HX.out.below hb7).below hb9
      have hfy := (HY.out.below hb7).below hb9
      have hfz := ho9.inV HZL.out
      try (go_wp2_with fail)
      go_meet
      exact ⟨hfz, rfl, rfl, hf, hfx, hfy⟩
  case rest =>
    obtain ⟨HZ, rfl, rfl, HE, HX, HY⟩ := hcut
    obtain ⟨pZ, cZ, e6, hiz, _⟩ := HZ.out
    subst e6
    have HIZ := Lib.hid hiz
    clear hiz HZ
    generalize wc = WB at HIZ HE HX HY ⊢
    clear HUU HNU HOZ HOA HOB Ha Hb
    rcases HEA.out with hz | hz
    · rcases HEB.out with hz2 | hz2
      · subst hz
        subst hz2
        have h3 := HC1.out rfl rfl
        injection h3 with h3 h4
        injection h4 with h4 h5
        subst h3
        subst h4
        subst h5
        obtain ⟨nv, hnv⟩ : ∃ n, Z.length = n := ⟨_, rfl⟩
        rw [hnv]
        have HNV := Lib.hid hnv
        clear hnv
        go_wp2_with fail
        refine (awake13_any _ (HR.out.below HE.out.bel)).mono ?_
        rintro e w10 ⟨rfl, hb⟩
        replace HE := Lib.hid (HE.out.step hb)
        replace HX := Lib.hid (HX.out.below hb)
        replace HY := Lib.hid (HY.out.below hb)
        replace HIZ := Lib.hid (HIZ.out.below hb)
        have HLA : Hid (([] : List Int).length + X.length ≤ 17592186043904) := by unfold Hid; rw [HNX.out]; simp; omega
        have HLB : Hid ((([] : List Int) ++ X).length + Y.length ≤ 17592186043904) := by unfold Hid; simp [HNX.out, HNY.out]; omega
        have HUV : Hid (([] : List Int) ++ X ++ Y = Z) := by unfold Hid; rw [← HVV.out]; simp
        clear hb
        go_wp2_with (first
          | (at_builtin; refine wpList_append_ints (.const (.slice none 0 0)) (.tmp 81) rfl rfl w10.heap.size (.slice none 0 0) [] rfl (Ints.nil _ _) pX nx cX X HNX.out rfl HX.out HLA.out (Nat.le_refl _) ?_; intro v6 w6 ho6 hg6; have hb6 : Below w10.heap.size w10 w6 := below_appI (Below.refl _ _) (Ints.nil w10 w10.heap.size) (Nat.le_refl _) hg6)
          | (at_builtin; refine wpList_append_ints (.tmp 82) (.tmp 83) rfl rfl w10.heap.size v6 ([] ++ X) rfl ho6 pY ny cY Y HNY.out rfl (HY.out.below hb6) HLB.out hb6.size ?_; intro v7 w7 ho7 hg7; have hb7 : Below w10.heap.size w10 w7 := below_appI hb6 ho6 (Nat.le_refl _) hg7; rw [HUV.out] at ho7)
          | fail)
        refine (same_at (.slice pZ nv cZ) v7 Z Z true _ (slice_inV13 HNV.out (by have := HNV.out; have := HZL.out; omega) (HIZ.out.below hb7)) (ho7.inV HZL.out) (by simp [Hid])).mono ?_
        rintro e w11 ⟨rfl, hb⟩
        have HBZ := Lib.hid ((HE.out.step hb7).step hb).bel
        clear hb ho6 hg6 hb6 ho7 hg7 hb7
        go_wp2
        go_ret
        exact ⟨rfl, HBZ.out⟩
      · subst hz
        subst hz2
        obtain ⟨h3, h4, h5⟩ := HC3.out rfl (by decide)
        subst h3
        subst h4
        simp only [List.length_nil]
        have d1 : decide ((na : Int) ≤ (Kz : Int)) = true := decide_eq_true (by omega)
        have HH5 := Lib.hid h5
        clear h5
        go_wp2_with fail
        refine (awake13_any _ (HR.out.below HE.out.bel)).mono ?_
        rintro e w9 ⟨rfl, hb⟩
        have HBZ := Lib.hid (HE.out.step hb).bel
        clear hb
        go_wp2
        go_ret
        exact ⟨by simp [HH5.out], HBZ.out⟩
    · subst hz
      obtain ⟨h3, h4, h5⟩ := HC2.out (by decide)
      subst h3
      subst h4
      simp only [List.length_nil]
      have d1 : decide ((na : Int) ≤ (Kz : Int)) = false := decide_eq_false (by omega)
      have HH5 := Lib.hid h5
      clear h5
      go_wp2_with fail
      refine (awake13_any _ (HR.out.below HE.out.bel)).mono ?_
      rintro e w9 ⟨rfl, hb⟩
      have HBZ := Lib.hid (HE.out.step hb).bel
      clear hb
      go_wp2
      go_ret
      exact ⟨by simp [HH5.out], HBZ.out⟩

end Go.Proofs.YtnmckcfaalakoaaDoor
