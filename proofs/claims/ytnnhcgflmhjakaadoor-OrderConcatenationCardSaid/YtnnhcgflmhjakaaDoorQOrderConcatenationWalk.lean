/-
  The walk of OrderConcatenation (genOC.py).
-/
import Derived.Test.YtnnhcgflmhjakaaDoorPkS
import Derived.Deep.RegionHeld3
set_option linter.unusedSimpArgs false
set_option linter.unusedVariables false
namespace Go.Proofs.YtnnhcgflmhjakaaDoor
open Go.RowKit
set_option linter.unusedVariables false

set_option maxRecDepth 100000 in
set_option maxHeartbeats 8000000 in
theorem orderConcatenation_walk (p : Option Addr) (cap : Nat) (zs : List Int) (q : Option Addr) (cq : Nat) (ms : List Int) (q2 : Option Addr) (cq2 : Nat) (ms2 : List Int) (w : World) (hin : IntsIn w p zs) (hl : zs.length ≤ 17592186043904) (him : IntsIn w q ms) (hml : ms.length ≤ 17592186043904) (him2 : IntsIn w q2 ms2) (hml2 : ms2.length ≤ 17592186043904) (hr : Rsv w) :
    Calls Tryd.prog 5 #[.slice p zs.length cap, .slice q ms.length cq, .slice q2 ms2.length cq2] w (Gives (.bool true) w) := by
  have HI := Lib.hid hin
  have HL := Lib.hid hl
  have HMI := Lib.hid him
  have HML := Lib.hid hml
  have HMI2 := Lib.hid him2
  have HML2 := Lib.hid hml2
  have HR := Lib.hid hr
  clear hin hl him hml hr him2 hml2
  go_enter Tryd.func5, Tryd.ntmps5
  go_wp2_with fail
  refine (tables_any p cap zs _ HI.out HL.out).mono ?_
  rintro e w1 ⟨⟨a0, a1, a2, a3, a4, a5, a6, a7, a8, a9, a10, a11⟩, T, rfl, htv, hm, hcap1, hb1⟩
  obtain ⟨pa0, na0, qa0, hsl0⟩ : Slc a0 := htv.cat.slc
  subst hsl0
  obtain ⟨pa1, na1, qa1, hsl1⟩ : Slc a1 := htv.cls.slc
  subst hsl1
  obtain ⟨pa2, na2, qa2, hsl2⟩ : Slc a2 := htv.joi.slc
  subst hsl2
  obtain ⟨pa3, na3, qa3, hsl3⟩ : Slc a3 := htv.bid.slc
  subst hsl3
  obtain ⟨pa4, na4, qa4, hsl4⟩ : Slc a4 := htv.scr.slc
  subst hsl4
  obtain ⟨pa5, na5, qa5, hsl5⟩ : Slc a5 := htv.sta.slc
  subst hsl5
  obtain ⟨pa6, na6, qa6, hsl6⟩ : Slc a6 := htv.ign.slc
  subst hsl6
  obtain ⟨pa7, na7, qa7, hsl7⟩ : Slc a7 := htv.ext.slc
  subst hsl7
  obtain ⟨pa8, na8, qa8, hsl8⟩ : Slc a8 := htv.map.slc
  subst hsl8
  obtain ⟨pa9, na9, qa9, hsl9⟩ : Slc a9 := htv.dec.slc
  subst hsl9
  obtain ⟨pa10, na10, qa10, hsl10⟩ : Slc a10 := htv.exc.slc
  subst hsl10
  obtain ⟨pa11, na11, qa11, hsl11⟩ : Slc a11 := htv.pro.slc
  subst hsl11
  have hba1 : Below w1.heap.size w1 (w1.alloc (.cells (tabCells ⟨.slice pa0 na0 qa0, .slice pa1 na1 qa1, .slice pa2 na2 qa2, .slice pa3 na3 qa3, .slice pa4 na4 qa4, .slice pa5 na5 qa5, .slice pa6 na6 qa6, .slice pa7 na7 qa7, .slice pa8 na8 qa8, .slice pa9 na9 qa9, .slice pa10 na10 qa10, .slice pa11 na11 qa11⟩) 26)) := (Below.refl _ _).alloc (Nat.le_refl _) _
  have HT1 : Hid (TabV (w1.alloc (.cells (tabCells ⟨.slice pa0 na0 qa0, .slice pa1 na1 qa1, .slice pa2 na2 qa2, .slice pa3 na3 qa3, .slice pa4 na4 qa4, .slice pa5 na5 qa5, .slice pa6 na6 qa6, .slice pa7 na7 qa7, .slice pa8 na8 qa8, .slice pa9 na9 qa9, .slice pa10 na10 qa10, .slice pa11 na11 qa11⟩) 26)) ⟨.slice pa0 na0 qa0, .slice pa1 na1 qa1, .slice pa2 na2 qa2, .slice pa3 na3 qa3, .slice pa4 na4 qa4, .slice pa5 na5 qa5, .slice pa6 na6 qa6, .slice pa7 na7 qa7, .slice pa8 na8 qa8, .slice pa9 na9 qa9, .slice pa10 na10 qa10, .slice pa11 na11 qa11⟩ T) := htv.below hba1
  have HX1 : Hid (BoxT (w1.alloc (.cells (tabCells ⟨.slice pa0 na0 qa0, .slice pa1 na1 qa1, .slice pa2 na2 qa2, .slice pa3 na3 qa3, .slice pa4 na4 qa4, .slice pa5 na5 qa5, .slice pa6 na6 qa6, .slice pa7 na7 qa7, .slice pa8 na8 qa8, .slice pa9 na9 qa9, .slice pa10 na10 qa10, .slice pa11 na11 qa11⟩) 26)) w1.heap.size ⟨.slice pa0 na0 qa0, .slice pa1 na1 qa1, .slice pa2 na2 qa2, .slice pa3 na3 qa3, .slice pa4 na4 qa4, .slice pa5 na5 qa5, .slice pa6 na6 qa6, .slice pa7 na7 qa7, .slice pa8 na8 qa8, .slice pa9 na9 qa9, .slice pa10 na10 qa10, .slice pa11 na11 qa11⟩) := BoxT.new _ _ _
  have HB1 : Hid (Below w.heap.size w (w1.alloc (.cells (tabCells ⟨.slice pa0 na0 qa0, .slice pa1 na1 qa1, .slice pa2 na2 qa2, .slice pa3 na3 qa3, .slice pa4 na4 qa4, .slice pa5 na5 qa5, .slice pa6 na6 qa6, .slice pa7 na7 qa7, .slice pa8 na8 qa8, .slice pa9 na9 qa9, .slice pa10 na10 qa10, .slice pa11 na11 qa11⟩) 26))) := hb1.trans (hba1.mono hb1.size)
  have HM := Lib.hid hm
  have HCAP : Hid (CapOf ⟨.slice pa0 na0 qa0, .slice pa1 na1 qa1, .slice pa2 na2 qa2, .slice pa3 na3 qa3, .slice pa4 na4 qa4, .slice pa5 na5 qa5, .slice pa6 na6 qa6, .slice pa7 na7 qa7, .slice pa8 na8 qa8, .slice pa9 na9 qa9, .slice pa10 na10 qa10, .slice pa11 na11 qa11⟩) := hcap1
  clear htv hm hcap1 hb1 hba1
  simp only [tabCells] at HT1 HX1 HB1
  go_wp2_with fail
  generalize (w1.alloc (.cells #[.slice pa0 na0 qa0, .slice pa1 na1 qa1, .slice pa2 na2 qa2, .slice pa3 na3 qa3, .slice pa4 na4 qa4, .slice pa5 na5 qa5, .slice pa6 na6 qa6, .slice pa7 na7 qa7, .slice pa8 na8 qa8, .slice pa9 na9 qa9, .slice pa10 na10 qa10, .slice pa11 na11 qa11] 26)) = W at HT1 HX1 HB1 ⊢
  generalize w1.heap.size = g at HX1 ⊢
  generalize (⟨.slice pa0 na0 qa0, .slice pa1 na1 qa1, .slice pa2 na2 qa2, .slice pa3 na3 qa3, .slice pa4 na4 qa4, .slice pa5 na5 qa5, .slice pa6 na6 qa6, .slice pa7 na7 qa7, .slice pa8 na8 qa8, .slice pa9 na9 qa9, .slice pa10 na10 qa10, .slice pa11 na11 qa11⟩ : TV) = x at HT1 HX1 HCAP
  have HE : Hid (LEnv w g x T W) := ⟨HT1.out, HX1.out, HB1.out⟩
  clear HT1 HX1 HB1
  refine (marks_any q cq ms _ (HMI.out.below HE.out.bel) HML.out).mono ?_
  rintro e w2 ⟨xa, v2, rfl, hlena, hscaa, hi2, hb2⟩
  obtain ⟨pa, ca, rfl, hia⟩ := hi2.inn
  replace HE := Lib.hid (HE.out.step hb2)
  have HIA := Lib.hid hia
  clear hi2 hb2 hia
  go_wp2_with fail
  refine (marks_any q2 cq2 ms2 _ (HMI2.out.below HE.out.bel) HML2.out).mono ?_
  rintro e w3 ⟨xb, v3, rfl, hlenb, hscab, hi3, hb3⟩
  obtain ⟨pb, cb, rfl, hib⟩ := hi3.inn
  replace HE := Lib.hid (HE.out.step hb3)
  replace HIA := Lib.hid (HIA.out.below hb3)
  have HIB := Lib.hid hib
  clear hi3 hb3 hib
  have hcz : clsT T 122 = 0 := cls_low HM.out.check (by decide)
  obtain ⟨X, hX⟩ : ∃ X, ordS (clsT T) xa = X := ⟨_, rfl⟩
  obtain ⟨Y, hY⟩ : ∃ X, ordS (clsT T) xb = X := ⟨_, rfl⟩
  obtain ⟨U, hU⟩ : ∃ U, xa ++ [122] ++ xb = U := ⟨_, rfl⟩
  obtain ⟨Z, hZ⟩ : ∃ X, ordS (clsT T) U = X := ⟨_, rfl⟩
  have hZe : Z = X ++ [122] ++ Y := by
    rw [← hZ, ← hU, ← hX, ← hY]
    have := ordS_sep (clsT T) hcz xa xb
    simpa using this
  have hUs : U.all scaB = true := by
    rw [← hU]; simp only [List.all_append, hscaa, hscab]; decide
  have hUl : U.length = xa.length + 1 + xb.length := by rw [← hU]; simp; omega
  have HAA := Lib.hid (accE_zero (T := T) HM.out.check (by omega) hscaa)
  have HAB := Lib.hid (accE_zero (T := T) HM.out.check (by omega) hscab)
  have HAU := Lib.hid (accE_zero (T := T) HM.out.check (l := U) (by omega) hUs)
  have HXO : Hid (ordL T xa = X) := by unfold Hid ordL; rw [HAA.out, if_pos rfl, hX]
  have HYO : Hid (ordL T xb = Y) := by unfold Hid ordL; rw [HAB.out, if_pos rfl, hY]
  have HZO : Hid (ordL T U = Z) := by unfold Hid ordL; rw [HAU.out, if_pos rfl, hZ]
  have hXl : X.length = xa.length := by rw [← hX, ordS_length]
  have hYl : Y.length = xb.length := by rw [← hY, ordS_length]
  obtain ⟨na, hna⟩ : ∃ n, xa.length = n := ⟨_, rfl⟩
  obtain ⟨nb, hnb⟩ : ∃ n, xb.length = n := ⟨_, rfl⟩
  have hoa := fun W (h1 : TabV W x T) h2 h3 => order_at x T pa ca xa 0 X W h1 h2 h3 (by omega) HAA HXO
  have hob := fun W (h1 : TabV W x T) h2 h3 => order_at x T pb cb xb 0 Y W h1 h2 h3 (by omega) HAB HYO
  have hoz := fun pz cz W (h1 : TabV W x T) h2 h3 => order_at x T pz cz U 0 Z W h1 h2 h3 (by omega) HAU HZO
  rw [hna] at hXl hlena hoa hUl ⊢
  rw [hnb] at hYl hlenb hob hUl ⊢
  rw [hUl] at hoz
  obtain ⟨nu, hnu⟩ : ∃ n, na + 1 + nb = n := ⟨_, rfl⟩
  rw [hnu] at hUl hoz
  have HNU := Lib.hid hnu
  have hnub : nu ≤ 19 := by omega
  have HOA := Lib.hid hoa
  have HOB := Lib.hid hob
  have HOZ := Lib.hid hoz
  have HUU := Lib.hid hU
  have HUL := Lib.hid hUl
  have HXL := Lib.hid hXl
  have HYL := Lib.hid hYl
  have HNA := Lib.hid hna
  have HNB := Lib.hid hnb
  have HZE := Lib.hid hZe
  have hZl : Z.length = nu := by rw [hZe]; simp [hXl, hYl]; omega
  have HZL := Lib.hid hZl
  clear hnu hoa hob hoz hcz hX hY hU hZ hZe hUs hUl hXl hYl hna hnb hscaa hscab hZl
  obtain ⟨⟨k0, k1, k2, k3, k4, k5⟩, ⟨k6, k7, k8, k9, k10, k11⟩⟩ := HE.out.box.load
  go_wp2_with fail
  refine (HOA.out _ HE.out.tab (HR.out.below HE.out.bel) HIA.out).mono ?_
  rintro e w4 ⟨v4, rfl, ho4, hb4⟩
  obtain ⟨pX, cX, hv4, hX4⟩ := ho4.inn
  rw [HXL.out] at hv4
  subst hv4
  replace HE := Lib.hid (HE.out.step hb4)
  replace HIA := Lib.hid (HIA.out.below hb4)
  replace HIB := Lib.hid (HIB.out.below hb4)
  have HIX := Lib.hid hX4
  clear ho4 hb4 hX4 k0 k1 k2 k3 k4 k5 k6 k7 k8 k9 k10 k11
  obtain ⟨⟨k0, k1, k2, k3, k4, k5⟩, ⟨k6, k7, k8, k9, k10, k11⟩⟩ := HE.out.box.load
  go_wp2_with fail
  refine (HOB.out _ HE.out.tab (HR.out.below HE.out.bel) HIB.out).mono ?_
  rintro e w5 ⟨v5, rfl, ho5, hb5⟩
  obtain ⟨pY, cY, hv5, hY5⟩ := ho5.inn
  rw [HYL.out] at hv5
  subst hv5
  replace HE := Lib.hid (HE.out.step hb5)
  replace HIA := Lib.hid (HIA.out.below hb5)
  replace HIB := Lib.hid (HIB.out.below hb5)
  replace HIX := Lib.hid (HIX.out.below hb5)
  have HIY := Lib.hid hY5
  clear ho5 hb5 hY5 k0 k1 k2 k3 k4 k5 k6 k7 k8 k9 k10 k11
  go_upto_region 5 with (fail)
  obtain ⟨⟨k0, k1, k2, k3, k4, k5⟩, ⟨k6, k7, k8, k9, k10, k11⟩⟩ := HE.out.box.load
  have HLA : Hid (([] : List Int).length + xa.length ≤ 17592186043904) := by unfold Hid; rw [HNA.out]; simp; omega
  have HLB : Hid ((([] : List Int) ++ xa).length + ([122] : List Int).length ≤ 17592186043904) := by unfold Hid; simp [HNA.out]; omega
  have HLC : Hid ((([] : List Int) ++ xa ++ [122]).length + xb.length ≤ 17592186043904) := by unfold Hid; simp [HNA.out, HNB.out]; omega
  have HUV : Hid (([] : List Int) ++ xa ++ [122] ++ xb = U) := by unfold Hid; rw [← HUU.out]; simp
  have hb0a : Below w5.heap.size w5 (w5.drew.alloc (.cells #[.int .i64 122] 3)) := (drew_one w5).alloc (Nat.le_refl _) _
  have hl0 : IntsIn (w5.drew.alloc (.cells #[.int .i64 122] 3)) (some ⟨w5.heap.size, 0, none⟩) [122] := lit_ints w5.drew #[.int .i64 122] [122] 3 rfl
  have HB0A := Lib.hid hb0a
  have HL0 := Lib.hid hl0
  clear hb0a hl0
  go_region_held3 (boxF g x)
    (first
      | exact (HE.out.step (drew_one w5)).box.flat
      | exact (HE.out.step HB0A.out).box.flat
      | exact (HE.out.step hb6).box.flat
      | exact (HE.out.step (hb6.alloc hb6.size _)).box.flat
      | exact (HE.out.step hb7).box.flat
      | exact (HE.out.step hb8).box.flat
      | exact ((HE.out.step hb8).step hb9).box.flat)
    (first
      | (go_at_call 9; (refine (HOZ.out p8 c8 w8 (HE.out.step hb8).tab (HR.out.below (HE.out.step hb8).bel) hi8).mono ?_); rintro e w9 ⟨v9, rfl, ho9, hb9⟩)
      | (refine step_app_ints (by rfl) (.const (.slice none 0 0)) (.tmp 36) (by rfl) w5.heap.size (.slice none 0 0) [] (by rfl) (Ints.nil _ _) pa na ca xa HNA.out (by rfl) (HIA.out.below (drew_one w5)) HLA.out (Nat.le_refl _) ?_; intro v6 w6 ho6 hg6; have hb6 : Below w5.heap.size w5 w6 := below_appI (drew_one w5) (Ints.nil w5.drew w5.heap.size) (Nat.le_refl _) hg6)
      | (refine step_app_ints (by rfl) (.const (.slice none 0 0)) (.tmp 36) (by rfl) w5.heap.size (.slice none 0 0) [] (by rfl) (Ints.nil _ _) pa na ca xa HNA.out (by rfl) (HIA.out.below HB0A.out) HLA.out HB0A.out.size ?_; intro v6 w6 ho6 hg6; have hb6 : Below w5.heap.size w5 w6 := below_appI HB0A.out (Ints.nil _ w5.heap.size) (Nat.le_refl _) hg6)
      | (refine step_app_ints (by rfl) (.tmp 37) (.tmp 38) (by rfl) w5.heap.size v6 ([] ++ xa) (by rfl) (ho6.alloc _) (some ⟨w6.heap.size, 0, none⟩) 1 1 [122] rfl (by rfl) (lit_ints w6 #[.int .i64 122] [122] 3 rfl) HLB.out (hb6.alloc hb6.size _).size ?_; intro v7 w7 ho7 hg7; have hb7 : Below w5.heap.size w5 w7 := below_appI (hb6.alloc hb6.size _) (ho6.alloc _) (Nat.le_refl _) hg7)
      | (refine step_app_ints (by rfl) (.tmp 37) (.tmp 38) (by rfl) w5.heap.size v6 ([] ++ xa) (by rfl) ho6 (some ⟨w5.heap.size, 0, none⟩) 1 1 [122] rfl (by rfl) (HL0.out.grownNone hg6) HLB.out hb6.size ?_; intro v7 w7 ho7 hg7; have hb7 : Below w5.heap.size w5 w7 := below_appI hb6 ho6 (Nat.le_refl _) hg7)
      | (refine step_app_ints (by rfl) (.tmp 39) (.tmp 40) (by rfl) w5.heap.size v7 ([] ++ xa ++ [122]) (by rfl) ho7 pb nb cb xb HNB.out (by rfl) (HIB.out.below hb7) HLC.out hb7.size ?_; intro v8 w8 ho8 hg8; have hb8 : Below w5.heap.size w5 w8 := below_appI hb7 ho7 (Nat.le_refl _) hg8; rw [HUV.out] at ho8; obtain ⟨p8, c8, e8, hi8⟩ := ho8.inn; rw [HUL.out] at e8; subst e8)
      | fail)
  all_goals
    obtain ⟨pZ, cZ, hv9, hZ9⟩ := ho9.inn
    rw [HZL.out] at hv9
    subst hv9
    have hb59 := hb8.trans (hb9.mono hb8.size)
    have HIZ := Lib.hid hZ9
    have HE9 := Lib.hid (HE.out.step hb59)
    have HX9 := Lib.hid (HIX.out.below hb59)
    have HY9 := Lib.hid (HIY.out.below hb59)
    clear ho9 hb9 hZ9 hb59 hb8 hb7 hb6 ho6 ho7 ho8 hg6 hg7 hg8 hi8 HE HIX HIY
    go_wp2_with fail
    refine (awake6_any _ (HR.out.below HE9.out.bel)).mono ?_
    rintro e w10 ⟨rfl, hb10⟩
    replace HIZ := Lib.hid (HIZ.out.below hb10)
    replace HX9 := Lib.hid (HX9.out.below hb10)
    replace HY9 := Lib.hid (HY9.out.below hb10)
    have HB10 := Lib.hid (HE9.out.bel.trans (hb10.mono HE9.out.bel.size))
    have HMA : Hid (([] : List Int).length + X.length ≤ 17592186043904) := by unfold Hid; rw [HXL.out]; simp; omega
    have HMB : Hid ((([] : List Int) ++ X).length ≤ 1099511627775) := by unfold Hid; simp [HXL.out]; omega
    have HMC : Hid ((([] : List Int) ++ X ++ [122]).length + Y.length ≤ 17592186043904) := by unfold Hid; simp [HXL.out, HYL.out]; omega
    clear hb10 HE9
    go_wp2_with (first
      | (at_builtin; refine wpList_append_ints (.const (.slice none 0 0)) (.tmp 60) rfl rfl w10.heap.size (.slice none 0 0) [] rfl (Ints.nil _ _) pX na cX X HXL.out rfl HX9.out HMA.out (Nat.le_refl _) ?_; intro v11 w11 ho11 hg11; have h11 : Below w10.heap.size w10 w11 := below_appI (Below.refl _ _) (Ints.nil w10 w10.heap.size) (Nat.le_refl _) hg11)
      | (at_builtin; refine wpList_append_int (.tmp 61) (.tmp 62) rfl rfl w10.heap.size v11 ([] ++ X) rfl ho11 122 _ w11.heap.size rfl rfl HMB.out h11.size ?_; intro v12 w12 ho12 hg12; have h12 : Below w10.heap.size w10 w12 := below_appI h11 ho11 (Nat.le_refl _) hg12)
      | (at_builtin; refine wpList_append_ints (.tmp 63) (.tmp 64) rfl rfl w10.heap.size v12 ([] ++ X ++ [122]) rfl ho12 pY nb cY Y HYL.out rfl (HY9.out.below h12) HMC.out h12.size ?_; intro v13 w13 ho13 hg13; have h13 : Below w10.heap.size w10 w13 := below_appI h12 ho12 (Nat.le_refl _) hg13)
      | fail)
    have hzz : ([] : List Int) ++ X ++ [122] ++ Y = Z := by rw [HZE.out]; simp
    rw [hzz] at ho13
    refine (same_at (.slice pZ nu cZ) v13 Z Z true _ ⟨pZ, cZ, by rw [HZL.out], HIZ.out.below h13, by rw [HZL.out]; omega⟩ (ho13.inV (by rw [HZL.out]; omega)) (by simp [Hid])).mono ?_
    rintro e w14 ⟨rfl, hb14⟩
    have HB14 := Lib.hid ((HB10.out.trans (h13.mono HB10.out.size)).trans (hb14.mono (Nat.le_trans HB10.out.size h13.size)))
    clear hb14 ho13 hg13 ho12 hg12 ho11 hg11 h11 h12 h13 hzz
    go_wp2
    go_ret
    exact ⟨rfl, HB14.out⟩

end Go.Proofs.YtnnhcgflmhjakaaDoor
