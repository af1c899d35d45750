/-
  The walk of DecomposeConcatenation (genDL.py).
-/
import Derived.Test.YtgekoeobllhnnaaGreatDoorPkZR
import Derived.Test.YtgekoeobllhnnaaGreatDoorQTblQ
import Derived.Deep.RegionHeld3
set_option linter.unusedSimpArgs false
set_option linter.unusedVariables false
namespace Go.Proofs.YtgekoeobllhnnaaGreatDoor
open Go.RowKit
set_option linter.unusedVariables false

set_option maxRecDepth 100000 in
set_option maxHeartbeats 8000000 in
theorem decomposeConcatenation_walk (p0 : Option Addr) (cap0 : Nat) (zs0 : List Int) (p1 : Option Addr) (cap1 : Nat) (zs1 : List Int) (p2 : Option Addr) (cap2 : Nat) (zs2 : List Int) (w : World) (hin0 : IntsIn w p0 zs0) (hl0 : zs0.length ≤ 17592186043904) (hin1 : IntsIn w p1 zs1) (hl1 : zs1.length ≤ 17592186043904) (hin2 : IntsIn w p2 zs2) (hl2 : zs2.length ≤ 17592186043904) (hr : Rsv w) :
    Calls Tryz.prog 6 #[.slice p0 zs0.length cap0, .slice p1 zs1.length cap1, .slice p2 zs2.length cap2] w (Gives (.bool true) w) := by
  have HI0 := Lib.hid hin0
  have HL0 := Lib.hid hl0
  have HI1 := Lib.hid hin1
  have HL1 := Lib.hid hl1
  have HI2 := Lib.hid hin2
  have HL2 := Lib.hid hl2
  have HR := Lib.hid hr
  clear hin0 hl0 hin1 hl1 hin2 hl2 hr
  go_enter Tryz.func6, Tryz.ntmps6
  go_wp2_with fail
  refine (tables_any p0 cap0 zs0 _ HI0.out HL0.out).mono ?_
  rintro e w1 ⟨⟨a0, a1, a2, a3, a4, a5, a6, a7, a8, a9, a10, a11⟩, T, rfl, htv, hm, hcap1, hb1⟩
  obtain ⟨pa0, na0, qa0, hsl0⟩ : Slc a0 := htv.cat.slc
  subst hsl0
  obtain ⟨pa1, na1, qa1, hsl1⟩ : Slc a1 := htv.cls.slc
  subst hsl1
  obtain ⟨pa2, na2, qa2, hsl2⟩ : Slc a2 := htv.joi.slc
  subst hsl2
  obtain ⟨pa3, na3, qa3, hsl3⟩ : Slc a3 := htv.bid.slc
  subst hsl3
  obtain ⟨pa4, na4, qa4, hsl4⟩ : Slc a4 := htv.scr.slc
  subst hsl4
  obtain ⟨pa5, na5, qa5, hsl5⟩ : Slc a5 := htv.sta.slc
  subst hsl5
  obtain ⟨pa6, na6, qa6, hsl6⟩ : Slc a6 := htv.ign.slc
  subst hsl6
  obtain ⟨pa7, na7, qa7, hsl7⟩ : Slc a7 := htv.ext.slc
  subst hsl7
  obtain ⟨pa8, na8, qa8, hsl8⟩ : Slc a8 := htv.map.slc
  subst hsl8
  obtain ⟨pa9, na9, qa9, hsl9⟩ : Slc a9 := htv.dec.slc
  subst hsl9
  obtain ⟨pa10, na10, qa10, hsl10⟩ : Slc a10 := htv.exc.slc
  subst hsl10
  obtain ⟨pa11, na11, qa11, hsl11⟩ : Slc a11 := htv.pro.slc
  subst hsl11
  have hba1 : Below w1.heap.size w1 (w1.alloc (.cells (tabCells ⟨.slice pa0 na0 qa0, .slice pa1 na1 qa1, .slice pa2 na2 qa2, .slice pa3 na3 qa3, .slice pa4 na4 qa4, .slice pa5 na5 qa5, .slice pa6 na6 qa6, .slice pa7 na7 qa7, .slice pa8 na8 qa8, .slice pa9 na9 qa9, .slice pa10 na10 qa10, .slice pa11 na11 qa11⟩) 26)) := (Below.refl _ _).alloc (Nat.le_refl _) _
  have HT1 : Hid (TabV (w1.alloc (.cells (tabCells ⟨.slice pa0 na0 qa0, .slice pa1 na1 qa1, .slice pa2 na2 qa2, .slice pa3 na3 qa3, .slice pa4 na4 qa4, .slice pa5 na5 qa5, .slice pa6 na6 qa6, .slice pa7 na7 qa7, .slice pa8 na8 qa8, .slice pa9 na9 qa9, .slice pa10 na10 qa10, .slice pa11 na11 qa11⟩) 26)) ⟨.slice pa0 na0 qa0, .slice pa1 na1 qa1, .slice pa2 na2 qa2, .slice pa3 na3 qa3, .slice pa4 na4 qa4, .slice pa5 na5 qa5, .slice pa6 na6 qa6, .slice pa7 na7 qa7, .slice pa8 na8 qa8, .slice pa9 na9 qa9, .slice pa10 na10 qa10, .slice pa11 na11 qa11⟩ T) := htv.below hba1
  have HX1 : Hid (BoxT (w1.alloc (.cells (tabCells ⟨.slice pa0 na0 qa0, .slice pa1 na1 qa1, .slice pa2 na2 qa2, .slice pa3 na3 qa3, .slice pa4 na4 qa4, .slice pa5 na5 qa5, .slice pa6 na6 qa6, .slice pa7 na7 qa7, .slice pa8 na8 qa8, .slice pa9 na9 qa9, .slice pa10 na10 qa10, .slice pa11 na11 qa11⟩) 26)) w1.heap.size ⟨.slice pa0 na0 qa0, .slice pa1 na1 qa1, .slice pa2 na2 qa2, .slice pa3 na3 qa3, .slice pa4 na4 qa4, .slice pa5 na5 qa5, .slice pa6 na6 qa6, .slice pa7 na7 qa7, .slice pa8 na8 qa8, .slice pa9 na9 qa9, .slice pa10 na10 qa10, .slice pa11 na11 qa11⟩) := BoxT.new _ _ _
  have HB1 : Hid (Below w.heap.size w (w1.alloc (.cells (tabCells ⟨.slice pa0 na0 qa0, .slice pa1 na1 qa1, .slice pa2 na2 qa2, .slice pa3 na3 qa3, .slice pa4 na4 qa4, .slice pa5 na5 qa5, .slice pa6 na6 qa6, .slice pa7 na7 qa7, .slice pa8 na8 qa8, .slice pa9 na9 qa9, .slice pa10 na10 qa10, .slice pa11 na11 qa11⟩) 26))) := hb1.trans (hba1.mono hb1.size)
  have HM := Lib.hid hm
  have HCAP : Hid (CapOf ⟨.slice pa0 na0 qa0, .slice pa1 na1 qa1, .slice pa2 na2 qa2, .slice pa3 na3 qa3, .slice pa4 na4 qa4, .slice pa5 na5 qa5, .slice pa6 na6 qa6, .slice pa7 na7 qa7, .slice pa8 na8 qa8, .slice pa9 na9 qa9, .slice pa10 na10 qa10, .slice pa11 na11 qa11⟩) := hcap1
  clear htv hm hcap1 hb1 hba1
  simp only [tabCells] at HT1 HX1 HB1
  go_wp2_with fail
  generalize (w1.alloc (.cells #[.slice pa0 na0 qa0, .slice pa1 na1 qa1, .slice pa2 na2 qa2, .slice pa3 na3 qa3, .slice pa4 na4 qa4, .slice pa5 na5 qa5, .slice pa6 na6 qa6, .slice pa7 na7 qa7, .slice pa8 na8 qa8, .slice pa9 na9 qa9, .slice pa10 na10 qa10, .slice pa11 na11 qa11] 26)) = W at HT1 HX1 HB1 ⊢
  generalize w1.heap.size = g at HX1 ⊢
  generalize (⟨.slice pa0 na0 qa0, .slice pa1 na1 qa1, .slice pa2 na2 qa2, .slice pa3 na3 qa3, .slice pa4 na4 qa4, .slice pa5 na5 qa5, .slice pa6 na6 qa6, .slice pa7 na7 qa7, .slice pa8 na8 qa8, .slice pa9 na9 qa9, .slice pa10 na10 qa10, .slice pa11 na11 qa11⟩ : TV) = x at HT1 HX1 HCAP
  have HE : Hid (LEnv w g x T W) := ⟨HT1.out, HX1.out, HB1.out⟩
  clear HT1 HX1 HB1
  refine (points_any p1 cap1 zs1 _ (HI1.out.below HE.out.bel) HL1.out).mono ?_
  rintro e wa ⟨xa, va, rfl, hna, hsa, hi, hb⟩
  obtain ⟨pa, ca, rfl, hia⟩ := hi.inn
  replace HE := Lib.hid (HE.out.step hb)
  have Ha := Lib.hid hia
  have HSa := Lib.hid hsa
  clear hi hb hia hsa
  go_wp2_with fail
  refine (points_any p2 cap2 zs2 _ (HI2.out.below HE.out.bel) HL2.out).mono ?_
  rintro e wb ⟨xb, vb, rfl, hnb, hsb, hi, hb⟩
  obtain ⟨pb, cb, rfl, hib⟩ := hi.inn
  replace HE := Lib.hid (HE.out.step hb)
  replace Ha := Lib.hid (Ha.out.below hb)
  have Hb := Lib.hid hib
  have HSb := Lib.hid hsb
  clear hi hb hib hsb
  obtain ⟨U, hU⟩ : ∃ U, xa ++ xb = U := ⟨_, rfl⟩
  have hUs : U.all scaB = true := by rw [← hU, List.all_append, HSa.out, HSb.out]; rfl
  have hUl : U.length = xa.length + xb.length := by rw [← hU]; simp
  have HEA := Lib.hid (nfd_small (T := T) HM.out.check HSa.out (by omega))
  have HEB := Lib.hid (nfd_small (T := T) HM.out.check HSb.out (by omega))
  have HEU := Lib.hid (nfd_small (T := T) HM.out.check hUs (by omega))
  obtain ⟨X, hX⟩ : ∃ X, Hid (nfdL T xa = X) := ⟨_, rfl⟩
  obtain ⟨Y, hY⟩ : ∃ X, Hid (nfdL T xb = X) := ⟨_, rfl⟩
  obtain ⟨Z, hZ⟩ : ∃ X, Hid (nfdL T U = X) := ⟨_, rfl⟩
  obtain ⟨V, hV⟩ : ∃ V, X ++ Y = V := ⟨_, rfl⟩
  have hcat := nfd_concat HEA.out HEB.out (by rw [hU]; exact HEU.out)
  rw [hX.out, hY.out, hV, hU, hZ.out] at hcat
  have HVE := Lib.hid hcat.1
  have HVO := Lib.hid hcat.2
  obtain ⟨na, hna⟩ : ∃ n, xa.length = n := ⟨_, rfl⟩
  obtain ⟨nb, hnb⟩ : ∃ n, xb.length = n := ⟨_, rfl⟩
  obtain ⟨nx, hnx⟩ : ∃ n, X.length = n := ⟨_, rfl⟩
  obtain ⟨ny, hny⟩ : ∃ n, Y.length = n := ⟨_, rfl⟩
  obtain ⟨nu, hnu⟩ : ∃ n, U.length = n := ⟨_, rfl⟩
  obtain ⟨nv, hnv⟩ : ∃ n, V.length = n := ⟨_, rfl⟩
  have hnx4 : nx ≤ 4096 := by rw [← hnx, ← hX.out]; exact nfdL_len T xa
  have hny4 : ny ≤ 4096 := by rw [← hny, ← hY.out]; exact nfdL_len T xb
  have hnvs : nv = nx + ny := by rw [← hnv, ← hV, List.length_append, hnx, hny]
  have hZl : Z.length ≤ 17592186043904 := by rw [← hZ.out]; have := nfdL_len T U; omega
  have hoa := fun W (h1 : TabV W x T) h2 h3 => nfd_at x T pa ca xa 0 X W h1 h2 h3 (by omega) HEA hX
  have hob := fun W (h1 : TabV W x T) h2 h3 => nfd_at x T pb cb xb 0 Y W h1 h2 h3 (by omega) HEB hY
  have hoz := fun pz cz W (h1 : TabV W x T) h2 h3 => nfd_at x T pz cz U 0 Z W h1 h2 h3 (by omega) HEU hZ
  have hov := fun pz cz W (h1 : TabV W x T) h3 => rorder_at x T pz cz V 0 Z W h1 HCAP.out h3 (by omega) HVE HVO
  rw [hna] at hoa ⊢
  rw [hnb] at hob ⊢
  rw [hnu] at hoz
  rw [hnv] at hov
  have HOA := Lib.hid hoa
  have HOB := Lib.hid hob
  have HOZ := Lib.hid hoz
  have HOV := Lib.hid hov
  have HNA := Lib.hid hna
  have HNB := Lib.hid hnb
  have HNX := Lib.hid hnx
  have HNY := Lib.hid hny
  have HNU := Lib.hid hnu
  have HNV := Lib.hid hnv
  have HUU := Lib.hid hU
  have HVV := Lib.hid hV
  have HZL := Lib.hid hZl
  have HZZ : Hid ((Z == Z) = true) := by simp [Hid]
  have hnab : na ≤ 10 ∧ nb ≤ 10 := ⟨by have := HNA.out; omega, by have := HNB.out; omega⟩
  obtain ⟨hnaa, hnbb⟩ := hnab
  clear hUl hUs hcat hU hV hna hnb hnx hny hnu hnv hnvs hZl hoa hob hoz hov HEA HEB HEU HVE HVO 
  obtain ⟨⟨k0, k1, k2, k3, k4, k5⟩, ⟨k6, k7, k8, k9, k10, k11⟩⟩ := HE.out.box.load
  go_wp2_with fail
  refine (HOA.out _ HE.out.tab (HR.out.below HE.out.bel) Ha.out).mono ?_
  rintro e w4 ⟨v4, rfl, hi, hb⟩
  obtain ⟨pX, cX, e4, hi4⟩ := hi.inn
  rw [HNX.out] at e4
  subst e4
  replace HE := Lib.hid (HE.out.step hb)
  replace Ha := Lib.hid (Ha.out.below hb)
  replace Hb := Lib.hid (Hb.out.below hb)
  have HX := Lib.hid hi4
  clear hi hb hi4 k0 k1 k2 k3 k4 k5 k6 k7 k8 k9 k10 k11
  obtain ⟨⟨k0, k1, k2, k3, k4, k5⟩, ⟨k6, k7, k8, k9, k10, k11⟩⟩ := HE.out.box.load
  go_wp2_with fail
  refine (HOB.out _ HE.out.tab (HR.out.below HE.out.bel) Hb.out).mono ?_
  rintro e w5 ⟨v5, rfl, hi, hb⟩
  obtain ⟨pY, cY, e5, hi5⟩ := hi.inn
  rw [HNY.out] at e5
  subst e5
  replace HE := Lib.hid (HE.out.step hb)
  replace Ha := Lib.hid (Ha.out.below hb)
  replace Hb := Lib.hid (Hb.out.below hb)
  replace HX := Lib.hid (HX.out.below hb)
  have HY := Lib.hid hi5
  clear hi hb hi5 k0 k1 k2 k3 k4 k5 k6 k7 k8 k9 k10 k11
  go_upto_region 5 with (fail)
  obtain ⟨⟨k0, k1, k2, k3, k4, k5⟩, ⟨k6, k7, k8, k9, k10, k11⟩⟩ := HE.out.box.load
  go_cut [14, 15] (fun a b wx => Hid (InV wx a Z) ∧ b = .int .i64 0 ∧ Hid (LEnv w g x T wx) ∧ Hid (IntsIn wx pX X) ∧ Hid (IntsIn wx pY Y))
  case first =>
    have HUL := HNU
    have HLA : Hid (([] : List Int).length + xa.length ≤ 17592186043904) := by unfold Hid; rw [HNA.out]; simp; omega
    have HLB : Hid ((([] : List Int) ++ xa).length + xb.length ≤ 17592186043904) := by unfold Hid; simp [HNA.out, HNB.out]; omega
    have HUV : Hid (([] : List Int) ++ xa ++ xb = U) := by unfold Hid; rw [← HUU.out]; simp
    have hd0 := drew_one w5
    have HD0 := Lib.hid hd0
    clear hd0
    go_region_held3 (boxF g x)
      (first
        | exact (HE.out.step HD0.out).box.flat
        | exact (HE.out.step hb6).box.flat
        | exact (HE.out.step hb7).box.flat
        | exact ((HE.out.step hb7).step hb9).box.flat)
      (first
        | (go_at_call 16; (with_reducible refine (HOZ.out p8 c8 _ (HE.out.step hb7).tab (HR.out.below (HE.out.step hb7).bel) hi8).mono ?_); rintro e w9 ⟨v9, rfl, ho9, hb9⟩)
        | (refine step_app_ints (by rfl) (.const (.slice none 0 0)) (.tmp 38) (by rfl) w5.heap.size (.slice none 0 0) [] (by rfl) (Ints.nil _ _) pa na ca xa HNA.out (by rfl) (Ha.out.below HD0.out) HLA.out (Nat.le_refl _) ?_; intro v6 w6 ho6 hg6; have hb6 : Below w5.heap.size w5 w6 := below_appI HD0.out (Ints.nil w5.drew w5.heap.size) (Nat.le_refl _) hg6)
        | (refine step_app_ints (by rfl) (.tmp 39) (.tmp 40) (by rfl) w5.heap.size v6 ([] ++ xa) (by rfl) ho6 pb nb cb xb HNB.out (by rfl) (Hb.out.below hb6) HLB.out hb6.size ?_; intro v7 w7 ho7 hg7; have hb7 : Below w5.heap.size w5 w7 := below_appI hb6 ho6 (Nat.le_refl _) hg7; rw [HUV.out] at ho7; obtain ⟨p8, c8, e8, hi8⟩ := ho7.inn; rw [HUL.out] at e8; subst e8)
        | fail)
    all_goals
      have hf := (HE.out.step hb7).step hb9
      have hfx := (HX.out.below hb7).below hb9
      have hfy := (HY.out.below hb7).below hb9
      have hfz := ho9.inV HZL.out
      try (go_wp2_with fail)
      go_meet
      exact ⟨hfz, rfl, hf, hfx, hfy⟩
  case rest =>
    obtain ⟨HZ, rfl, HE, HX, HY⟩ := hcut
    generalize wc = WB at HZ HE HX HY ⊢
    clear HUU HNU HOZ HOA HOB Ha Hb
    go_upto_region 6 with (fail)
    obtain ⟨⟨k0, k1, k2, k3, k4, k5⟩, ⟨k6, k7, k8, k9, k10, k11⟩⟩ := HE.out.box.load
    go_cut [16, 17] (fun a b wx => Hid (InV wx a Z) ∧ b = .int .i64 0 ∧ Hid (LEnv w g x T wx) ∧ Hid (InV wx u14 Z))
    case first =>
      have HUL := HNV
      have HUU := HVV
      have HLA : Hid (([] : List Int).length + X.length ≤ 17592186043904) := by unfold Hid; rw [HNX.out]; simp; omega
      have HLB : Hid ((([] : List Int) ++ X).length + Y.length ≤ 17592186043904) := by unfold Hid; simp [HNX.out, HNY.out]; omega
      have HUV : Hid (([] : List Int) ++ X ++ Y = V) := by unfold Hid; rw [← HUU.out]; simp
      have hd0 := drew_one WB
      have HD0 := Lib.hid hd0
      clear hd0
      go_region_held3 (boxF g x)
        (first
          | exact (HE.out.step HD0.out).box.flat
          | exact (HE.out.step hb6).box.flat
          | exact (HE.out.step hb7).box.flat
          | exact ((HE.out.step hb7).step hb9).box.flat)
        (first
          | (go_at_call 20; (with_reducible refine (HOV.out p8 c8 _ (HE.out.step hb7).tab hi8).mono ?_); rintro e w9 ⟨v9, rfl, ho9, hb9⟩)
          | (refine step_app_ints (by rfl) (.const (.slice none 0 0)) (.tmp 47) (by rfl) WB.heap.size (.slice none 0 0) [] (by rfl) (Ints.nil _ _) pX nx cX X HNX.out (by rfl) (HX.out.below HD0.out) HLA.out (Nat.le_refl _) ?_; intro v6 w6 ho6 hg6; have hb6 : Below WB.heap.size WB w6 := below_appI HD0.out (Ints.nil WB.drew WB.heap.size) (Nat.le_refl _) hg6)
          | (refine step_app_ints (by rfl) (.tmp 48) (.tmp 49) (by rfl) WB.heap.size v6 ([] ++ X) (by rfl) ho6 pY ny cY Y HNY.out (by rfl) (HY.out.below hb6) HLB.out hb6.size ?_; intro v7 w7 ho7 hg7; have hb7 : Below WB.heap.size WB w7 := below_appI hb6 ho6 (Nat.le_refl _) hg7; rw [HUV.out] at ho7; obtain ⟨p8, c8, e8, hi8⟩ := ho7.inn; rw [HUL.out] at e8; subst e8)
          | fail)
      all_goals
        have hf := (HE.out.step hb7).step hb9
        have hfv := (HZ.out.below hb7).below hb9
        have hfz := ho9.inV HZL.out
        try (go_wp2_with fail)
        go_meet
        exact ⟨hfz, rfl, hf, hfv⟩
    case rest =>
      obtain ⟨HZ2, rfl, HE, HZ1⟩ := hcut
      generalize wc = w7 at HZ1 HZ2 HE ⊢
      go_wp2_with fail
      refine (awake7_any _ (HR.out.below HE.out.bel)).mono ?_
      rintro e w8 ⟨rfl, hb⟩
      replace HE := Lib.hid (HE.out.step hb)
      replace HZ1 := Lib.hid (HZ1.out.below hb)
      replace HZ2 := Lib.hid (HZ2.out.below hb)
      clear hb
      go_wp2_with fail
      refine (same_at u14 u16 Z Z true _ HZ1.out HZ2.out HZZ).mono ?_
      rintro e w9 ⟨rfl, hb⟩
      have HB := Lib.hid (HE.out.step hb).bel
      clear hb
      go_wp2
      go_ret
      exact ⟨rfl, HB.out⟩

end Go.Proofs.YtgekoeobllhnnaaGreatDoor
