/-
  The walk of ComposeStops (genCW.py).
-/
import Derived.Test.YtcamkjafpnojkaaGreatDoorPkZU
import Derived.Test.YtcamkjafpnojkaaGreatDoorQTblQ
import Derived.Deep.RegionHeld3
set_option linter.unusedSimpArgs false
set_option linter.unusedVariables false
namespace Go.Proofs.YtcamkjafpnojkaaGreatDoor
open Go.RowKit
set_option linter.unusedVariables false

set_option maxRecDepth 100000 in
set_option maxHeartbeats 8000000 in
theorem composeStops_walk (p0 : Option Addr) (cap0 : Nat) (zs0 : List Int) (p1 : Option Addr) (cap1 : Nat) (zs1 : List Int) (p2 : Option Addr) (cap2 : Nat) (zs2 : List Int) (w : World) (hin0 : IntsIn w p0 zs0) (hl0 : zs0.length ≤ 17592186043904) (hin1 : IntsIn w p1 zs1) (hl1 : zs1.length ≤ 17592186043904) (hin2 : IntsIn w p2 zs2) (hl2 : zs2.length ≤ 17592186043904) (hr : Rsv w) :
    Calls Tryz.prog 10 #[.slice p0 zs0.length cap0, .slice p1 zs1.length cap1, .slice p2 zs2.length cap2] w (Gives (.bool true) w) := by
  have HI0 := Lib.hid hin0
  have HL0 := Lib.hid hl0
  have HI1 := Lib.hid hin1
  have HL1 := Lib.hid hl1
  have HI2 := Lib.hid hin2
  have HL2 := Lib.hid hl2
  have HR := Lib.hid hr
  clear hin0 hl0 hin1 hl1 hin2 hl2 hr
  go_enter Tryz.func10, Tryz.ntmps10
  go_wp2_with fail
  refine (tables_any p0 cap0 zs0 _ HI0.out HL0.out).mono ?_
  rintro e w1 ⟨⟨a0, a1, a2, a3, a4, a5, a6, a7, a8, a9, a10, a11⟩, T, rfl, htv, hm, hcap1, hb1⟩
  obtain ⟨pa0, na0, qa0, hsl0⟩ : Slc a0 := htv.cat.slc
  subst hsl0
  obtain ⟨pa1, na1, qa1, hsl1⟩ : Slc a1 := htv.cls.slc
  subst hsl1
  obtain ⟨pa2, na2, qa2, hsl2⟩ : Slc a2 := htv.joi.slc
  subst hsl2
  obtain ⟨pa3, na3, qa3, hsl3⟩ : Slc a3 := htv.bid.slc
  subst hsl3
  obtain ⟨pa4, na4, qa4, hsl4⟩ : Slc a4 := htv.scr.slc
  subst hsl4
  obtain ⟨pa5, na5, qa5, hsl5⟩ : Slc a5 := htv.sta.slc
  subst hsl5
  obtain ⟨pa6, na6, qa6, hsl6⟩ : Slc a6 := htv.ign.slc
  subst hsl6
  obtain ⟨pa7, na7, qa7, hsl7⟩ : Slc a7 := htv.ext.slc
  subst hsl7
  obtain ⟨pa8, na8, qa8, hsl8⟩ : Slc a8 := htv.map.slc
  subst hsl8
  obtain ⟨pa9, na9, qa9, hsl9⟩ : Slc a9 := htv.dec.slc
  subst hsl9
  obtain ⟨pa10, na10, qa10, hsl10⟩ : Slc a10 := htv.exc.slc
  subst hsl10
  obtain ⟨pa11, na11, qa11, hsl11⟩ : Slc a11 := htv.pro.slc
  subst hsl11
  have hba1 : Below w1.heap.size w1 (w1.alloc (.cells (tabCells ⟨.slice pa0 na0 qa0, .slice pa1 na1 qa1, .slice pa2 na2 qa2, .slice pa3 na3 qa3, .slice pa4 na4 qa4, .slice pa5 na5 qa5, .slice pa6 na6 qa6, .slice pa7 na7 qa7, .slice pa8 na8 qa8, .slice pa9 na9 qa9, .slice pa10 na10 qa10, .slice pa11 na11 qa11⟩) 26)) := (Below.refl _ _).alloc (Nat.le_refl _) _
  have HT1 : Hid (TabV (w1.alloc (.cells (tabCells ⟨.slice pa0 na0 qa0, .slice pa1 na1 qa1, .slice pa2 na2 qa2, .slice pa3 na3 qa3, .slice pa4 na4 qa4, .slice pa5 na5 qa5, .slice pa6 na6 qa6, .slice pa7 na7 qa7, .slice pa8 na8 qa8, .slice pa9 na9 qa9, .slice pa10 na10 qa10, .slice pa11 na11 qa11⟩) 26)) ⟨.slice pa0 na0 qa0, .slice pa1 na1 qa1, .slice pa2 na2 qa2, .slice pa3 na3 qa3, .slice pa4 na4 qa4, .slice pa5 na5 qa5, .slice pa6 na6 qa6, .slice pa7 na7 qa7, .slice pa8 na8 qa8, .slice pa9 na9 qa9, .slice pa10 na10 qa10, .slice pa11 na11 qa11⟩ T) := htv.below hba1
  have HX1 : Hid (BoxT (w1.alloc (.cells (tabCells ⟨.slice pa0 na0 qa0, .slice pa1 na1 qa1, .slice pa2 na2 qa2, .slice pa3 na3 qa3, .slice pa4 na4 qa4, .slice pa5 na5 qa5, .slice pa6 na6 qa6, .slice pa7 na7 qa7, .slice pa8 na8 qa8, .slice pa9 na9 qa9, .slice pa10 na10 qa10, .slice pa11 na11 qa11⟩) 26)) w1.heap.size ⟨.slice pa0 na0 qa0, .slice pa1 na1 qa1, .slice pa2 na2 qa2, .slice pa3 na3 qa3, .slice pa4 na4 qa4, .slice pa5 na5 qa5, .slice pa6 na6 qa6, .slice pa7 na7 qa7, .slice pa8 na8 qa8, .slice pa9 na9 qa9, .slice pa10 na10 qa10, .slice pa11 na11 qa11⟩) := BoxT.new _ _ _
  have HB1 : Hid (Below w.heap.size w (w1.alloc (.cells (tabCells ⟨.slice pa0 na0 qa0, .slice pa1 na1 qa1, .slice pa2 na2 qa2, .slice pa3 na3 qa3, .slice pa4 na4 qa4, .slice pa5 na5 qa5, .slice pa6 na6 qa6, .slice pa7 na7 qa7, .slice pa8 na8 qa8, .slice pa9 na9 qa9, .slice pa10 na10 qa10, .slice pa11 na11 qa11⟩) 26))) := hb1.trans (hba1.mono hb1.size)
  have HM := Lib.hid hm
  have HCAP : Hid (CapOf ⟨.slice pa0 na0 qa0, .slice pa1 na1 qa1, .slice pa2 na2 qa2, .slice pa3 na3 qa3, .slice pa4 na4 qa4, .slice pa5 na5 qa5, .slice pa6 na6 qa6, .slice pa7 na7 qa7, .slice pa8 na8 qa8, .slice pa9 na9 qa9, .slice pa10 na10 qa10, .slice pa11 na11 qa11⟩) := hcap1
  clear htv hm hcap1 hb1 hba1
  simp only [tabCells] at HT1 HX1 HB1
  go_wp2_with fail
  generalize (w1.alloc (.cells #[.slice pa0 na0 qa0, .slice pa1 na1 qa1, .slice pa2 na2 qa2, .slice pa3 na3 qa3, .slice pa4 na4 qa4, .slice pa5 na5 qa5, .slice pa6 na6 qa6, .slice pa7 na7 qa7, .slice pa8 na8 qa8, .slice pa9 na9 qa9, .slice pa10 na10 qa10, .slice pa11 na11 qa11] 26)) = W at HT1 HX1 HB1 ⊢
  generalize w1.heap.size = g at HX1 ⊢
  generalize (⟨.slice pa0 na0 qa0, .slice pa1 na1 qa1, .slice pa2 na2 qa2, .slice pa3 na3 qa3, .slice pa4 na4 qa4, .slice pa5 na5 qa5, .slice pa6 na6 qa6, .slice pa7 na7 qa7, .slice pa8 na8 qa8, .slice pa9 na9 qa9, .slice pa10 na10 qa10, .slice pa11 na11 qa11⟩ : TV) = x at HT1 HX1 HCAP
  have HE : Hid (LEnv w g x T W) := ⟨HT1.out, HX1.out, HB1.out⟩
  clear HT1 HX1 HB1
  refine (dense_any p1 cap1 zs1 _ (HI1.out.below HE.out.bel) HL1.out).mono ?_
  rintro e wa ⟨xa, va, rfl, hna, hsa, hi, hb⟩
  obtain ⟨pa, ca, rfl, hia⟩ := hi.inn
  replace HE := Lib.hid (HE.out.step hb)
  have Ha := Lib.hid hia
  have HSa := Lib.hid hsa
  clear hi hb hia hsa
  go_wp2_with fail
  refine (dense_any p2 cap2 zs2 _ (HI2.out.below HE.out.bel) HL2.out).mono ?_
  rintro e wb ⟨xb, vb, rfl, hnb, hsb, hi, hb⟩
  obtain ⟨pb, cb, rfl, hib⟩ := hi.inn
  replace HE := Lib.hid (HE.out.step hb)
  replace Ha := Lib.hid (Ha.out.below hb)
  have Hb := Lib.hid hib
  have HSb := Lib.hid hsb
  clear hi hb hib hsb
  obtain ⟨U, hU⟩ : ∃ U, xa ++ [46] ++ xb = U := ⟨_, rfl⟩
  have hUs : U.all scaB = true := by rw [← hU, List.all_append, List.all_append, HSa.out, HSb.out]; rfl
  have hUl : U.length = xa.length + 1 + xb.length := by rw [← hU]; simp; omega
  have HEA := Lib.hid (nfd_small (T := T) HM.out.check HSa.out (by omega))
  have HEB := Lib.hid (nfd_small (T := T) HM.out.check HSb.out (by omega))
  have HEU := Lib.hid (nfd_small (T := T) HM.out.check hUs (by omega))
  obtain ⟨X, hX⟩ : ∃ X, Hid (nfcL T xa = X) := ⟨_, rfl⟩
  obtain ⟨Y, hY⟩ : ∃ X, Hid (nfcL T xb = X) := ⟨_, rfl⟩
  obtain ⟨Z, hZ⟩ : ∃ X, Hid (nfcL T U = X) := ⟨_, rfl⟩
  have hst := nfc_stops HEA.out HEB.out (by rw [hU]; exact HEU.out)
  rw [hX.out, hY.out, hU, hZ.out] at hst
  obtain ⟨na, hna⟩ : ∃ n, xa.length = n := ⟨_, rfl⟩
  obtain ⟨nb, hnb⟩ : ∃ n, xb.length = n := ⟨_, rfl⟩
  obtain ⟨nx, hnx⟩ : ∃ n, X.length = n := ⟨_, rfl⟩
  obtain ⟨ny, hny⟩ : ∃ n, Y.length = n := ⟨_, rfl⟩
  obtain ⟨nz, hnz⟩ : ∃ n, Z.length = n := ⟨_, rfl⟩
  obtain ⟨nu, hnu⟩ : ∃ n, U.length = n := ⟨_, rfl⟩
  have hnx4 : nx ≤ 4096 := by rw [← hnx, ← hX.out]; exact nfcL_len T xa
  have hny4 : ny ≤ 4096 := by rw [← hny, ← hY.out]; exact nfcL_len T xb
  have hnz4 : nz ≤ 4096 := by rw [← hnz, ← hZ.out]; exact nfcL_len T U
  have hoa := fun W (h1 : TabV W x T) h2 h3 => nfc_at x T pa ca xa 0 X W h1 h2 h3 (by omega) HEA hX
  have hob := fun W (h1 : TabV W x T) h2 h3 => nfc_at x T pb cb xb 0 Y W h1 h2 h3 (by omega) HEB hY
  have hoz := fun pz cz W (h1 : TabV W x T) h2 h3 => nfc_at x T pz cz U 0 Z W h1 h2 h3 (by omega) HEU hZ
  rw [hna] at hoa ⊢
  rw [hnb] at hob ⊢
  rw [hnu] at hoz
  have HOA := Lib.hid hoa
  have HOB := Lib.hid hob
  have HOZ := Lib.hid hoz
  have HNA := Lib.hid hna
  have HNB := Lib.hid hnb
  have HNX := Lib.hid hnx
  have HNY := Lib.hid hny
  have HNZ := Lib.hid hnz
  have HNU := Lib.hid hnu
  have HUU := Lib.hid hU
  have HST := Lib.hid hst
  have HZZ : Hid ((Z == Z) = true) := by simp [Hid]
  have hnab : na ≤ 10 ∧ nb ≤ 10 := ⟨by have := HNA.out; omega, by have := HNB.out; omega⟩
  obtain ⟨hnaa, hnbb⟩ := hnab
  clear hUl hUs hst hU hna hnb hnx hny hnz hnu hoa hob hoz HEA HEB HEU
  obtain ⟨⟨k0, k1, k2, k3, k4, k5⟩, ⟨k6, k7, k8, k9, k10, k11⟩⟩ := HE.out.box.load
  go_wp2_with fail
  refine (HOA.out _ HE.out.tab (HR.out.below HE.out.bel) Ha.out).mono ?_
  rintro e w4 ⟨v4, rfl, hi, hb⟩
  obtain ⟨pX, cX, eX, hiX⟩ := hi.inn
  rw [HNX.out] at eX
  subst eX
  replace HE := Lib.hid (HE.out.step hb)
  replace Ha := Lib.hid (Ha.out.below hb)
  replace Hb := Lib.hid (Hb.out.below hb)
  have HX := Lib.hid hiX
  clear hi hiX hb k0 k1 k2 k3 k4 k5 k6 k7 k8 k9 k10 k11
  obtain ⟨⟨k0, k1, k2, k3, k4, k5⟩, ⟨k6, k7, k8, k9, k10, k11⟩⟩ := HE.out.box.load
  go_wp2_with fail
  refine (HOB.out _ HE.out.tab (HR.out.below HE.out.bel) Hb.out).mono ?_
  rintro e w5 ⟨v5, rfl, hi, hb⟩
  obtain ⟨pY, cY, eY, hiY⟩ := hi.inn
  rw [HNY.out] at eY
  subst eY
  replace HE := Lib.hid (HE.out.step hb)
  replace Ha := Lib.hid (Ha.out.below hb)
  replace Hb := Lib.hid (Hb.out.below hb)
  replace HX := Lib.hid (HX.out.below hb)
  have HY := Lib.hid hiY
  clear hi hiY hb k0 k1 k2 k3 k4 k5 k6 k7 k8 k9 k10 k11
  have HLA : Hid (([] : List Int).length + xa.length ≤ 17592186043904) := by unfold Hid; rw [HNA.out]; simp; omega
  have HLB : Hid ((([] : List Int) ++ xa).length + [(46 : Int)].length ≤ 17592186043904) := by unfold Hid; simp [HNA.out]; omega
  have HLC : Hid ((([] : List Int) ++ xa ++ [46]).length + xb.length ≤ 17592186043904) := by unfold Hid; simp [HNA.out, HNB.out]; omega
  have HUV : Hid (([] : List Int) ++ xa ++ [46] ++ xb = U) := by unfold Hid; rw [← HUU.out]; simp
  have hd0 := drew_one w5
  have HD0 := Lib.hid hd0
  have HDA := Lib.hid (hd0.alloc hd0.size (.cells #[.int .i64 46] 3))
  have HQ0 := Lib.hid (lit_ints w5.drew #[.int .i64 46] [46] 3 rfl)
  clear hd0
  go_upto_region 5 with (fail)
  obtain ⟨⟨k0, k1, k2, k3, k4, k5⟩, ⟨k6, k7, k8, k9, k10, k11⟩⟩ := HE.out.box.load
  go_cut [14, 15] (fun a b wx => (∃ pZ cZ, a = .slice pZ nz cZ ∧ Hid (IntsIn wx pZ Z)) ∧ b = .int .i64 0 ∧ Hid (LEnv w g x T wx) ∧ Hid (IntsIn wx pX X) ∧ Hid (IntsIn wx pY Y))
  case first =>
    go_region_held3 (boxF g x)
      (first
        | exact (HE.out.step HD0.out).box.flat
        | exact (HE.out.step hb6).box.flat
        | exact (HE.out.step hbL).box.flat
        | exact (HE.out.step HDA.out).box.flat
        | exact (HE.out.step hb7).box.flat
        | exact (HE.out.step hb8).box.flat
        | exact ((HE.out.step hb8).step hb9).box.flat)
      (first
        | (go_at_call 21; (with_reducible refine (HOZ.out p8 c8 _ (HE.out.step hb8).tab (HR.out.below (HE.out.step hb8).bel) hi8).mono ?_); rintro e w9 ⟨v9, rfl, ho9, hb9⟩; obtain ⟨pZ, cZ, eZ, hiZ⟩ := ho9.inn; rw [HNZ.out] at eZ; subst eZ)
        | (refine step_app_ints (by rfl) (.const (.slice none 0 0)) (.tmp 36) (by rfl) w5.heap.size (.slice none 0 0) [] (by rfl) (Ints.nil w5.drew _) pa na ca xa HNA.out (by rfl) (Ha.out.below HD0.out) HLA.out (Nat.le_refl _) ?_; intro v6 w6 ho6 hg6; have hb6 : Below w5.heap.size w5 w6 := below_appI HD0.out (Ints.nil w5.drew w5.heap.size) (Nat.le_refl _) hg6; have hbL : Below w5.heap.size w5 (w6.alloc (.cells #[.int .i64 46] 3)) := hb6.alloc hb6.size _)
        | (refine step_app_ints (by rfl) (.tmp 37) (.tmp 38) (by rfl) w5.heap.size v6 ([] ++ xa) (by rfl) (Ints.alloc ho6 (.cells #[.int .i64 46] 3)) (some ⟨w6.heap.size, 0, none⟩) 1 1 [46] rfl (by rfl) (lit_ints w6 #[.int .i64 46] [46] 3 rfl) HLB.out hbL.size ?_; intro v7 w7 ho7 hg7; have hb7 : Below w5.heap.size w5 w7 := below_appI hbL (Ints.alloc ho6 _) (Nat.le_refl _) hg7)
        | (refine step_app_ints (by rfl) (.const (.slice none 0 0)) (.tmp 36) (by rfl) w5.heap.size (.slice none 0 0) [] (by rfl) (Ints.nil (w5.drew.alloc (.cells #[.int .i64 46] 3)) _) pa na ca xa HNA.out (by rfl) (Ha.out.below HDA.out) HLA.out HDA.out.size ?_; intro v6 w6 ho6 hg6; have hb6 : Below w5.heap.size w5 w6 := below_appI HDA.out (Ints.nil _ w5.heap.size) (Nat.le_refl _) hg6; have hq6 : IntsIn w6 (some ⟨w5.heap.size, 0, none⟩) [46] := HQ0.out.below (below_appI (Below.refl _ _) (Ints.nil _ _) (Nat.le_refl _) hg6))
        | (refine step_app_ints (by rfl) (.tmp 37) (.tmp 38) (by rfl) w5.heap.size v6 ([] ++ xa) (by rfl) ho6 (some ⟨w5.heap.size, 0, none⟩) 1 1 [46] rfl (by rfl) hq6 HLB.out hb6.size ?_; intro v7 w7 ho7 hg7; have hb7 : Below w5.heap.size w5 w7 := below_appI hb6 ho6 (Nat.le_refl _) hg7)
        | (refine step_app_ints (by rfl) (.tmp 39) (.tmp 40) (by rfl) w5.heap.size v7 ([] ++ xa ++ [46]) (by rfl) ho7 pb nb cb xb HNB.out (by rfl) (Hb.out.below hb7) HLC.out hb7.size ?_; intro v8 w8 ho8 hg8; have hb8 : Below w5.heap.size w5 w8 := below_appI hb7 ho7 (Nat.le_refl _) hg8; rw [HUV.out] at ho8; obtain ⟨p8, c8, e8, hi8⟩ := ho8.inn; rw [HNU.out] at e8; subst e8)
        | fail)
    all_goals
      have hf := (HE.out.step hb8).step hb9
      have hfx := (HX.out.below hb8).below hb9
      have hfy := (HY.out.below hb8).below hb9
      try (go_wp2_with fail)
      go_meet
      exact ⟨⟨pZ, cZ, rfl, hiZ⟩, rfl, hf, hfx, hfy⟩
  case rest =>
    obtain ⟨⟨pZ, cZ, rfl, HZ⟩, rfl, HE, HX, HY⟩ := hcut
    generalize wc = WB at HZ HE HX HY ⊢
    clear HUU HNU HOZ HOA HOB Ha Hb HLA HLB HLC HUV HD0 HDA HQ0
    go_wp2_with fail
    refine (awake8_any _ (HR.out.below HE.out.bel)).mono ?_
    rintro e w10 ⟨rfl, hb⟩
    replace HE := Lib.hid (HE.out.step hb)
    replace HX := Lib.hid (HX.out.below hb)
    replace HY := Lib.hid (HY.out.below hb)
    replace HZ := Lib.hid (HZ.out.below hb)
    clear hb
    have HLA : Hid (([] : List Int).length + X.length ≤ 17592186043904) := by unfold Hid; rw [HNX.out]; simp; omega
    have HLB : Hid ((([] : List Int) ++ X).length + [(46 : Int)].length ≤ 17592186043904) := by unfold Hid; simp [HNX.out]; omega
    have HLC : Hid ((([] : List Int) ++ X ++ [46]).length + Y.length ≤ 17592186043904) := by unfold Hid; simp [HNX.out, HNY.out]; omega
    have HUV : Hid (([] : List Int) ++ X ++ [46] ++ Y = Z) := by unfold Hid; rw [HST.out]; simp
    go_wp2_with (at_builtin; first
      | (refine wpList_append_ints (.const (.slice none 0 0)) (.tmp 60) rfl rfl w10.heap.size (.slice none 0 0) [] rfl (Ints.nil _ _) pX nx cX X HNX.out rfl HX.out HLA.out (Nat.le_refl _) ?_
         intro v11 w11 ho11 hg11
         have hb11 : Below w10.heap.size w10 w11 := below_appI (Below.refl _ _) (Ints.nil _ _) (Nat.le_refl _) hg11
         have HB11 := Lib.hid (hb11.alloc hb11.size (.cells #[.int .i64 46] 3))
         have HO11 := Lib.hid (Ints.alloc ho11 (.cells #[.int .i64 46] 3))
         have HQ := Lib.hid (lit_ints w11 #[.int .i64 46] [46] 3 rfl)
         clear hb11 ho11 hg11)
      | (refine wpList_append_ints (.tmp 61) (.tmp 62) rfl rfl w10.heap.size _ ([] ++ X) rfl HO11.out (some ⟨w11.heap.size, 0, none⟩) 1 1 [46] rfl rfl HQ.out HLB.out HB11.out.size ?_
         intro v12 w12 ho12 hg12
         have HB12 : Hid (Below w10.heap.size w10 w12) := below_appI HB11.out HO11.out (Nat.le_refl _) hg12
         have HO12 := Lib.hid ho12
         clear ho12 hg12)
      | (refine wpList_append_ints (.tmp 63) (.tmp 64) rfl rfl w10.heap.size _ ([] ++ X ++ [46]) rfl HO12.out pY ny cY Y HNY.out rfl (HY.out.below HB12.out) HLC.out HB12.out.size ?_
         intro v13 w13 ho13 hg13
         have HB13 : Hid (Below w10.heap.size w10 w13) := below_appI HB12.out HO12.out (Nat.le_refl _) hg13
         rw [HUV.out] at ho13
         have HO13 := Lib.hid ho13
         clear ho13 hg13 HO12 HO11 HB11 HB12 HQ)
      | fail)
    refine (same_at (.slice pZ nz cZ) _ Z Z true _ (slice_inV HNZ.out (by omega) (HZ.out.below HB13.out)) (HO13.out.inV (by rw [HNZ.out]; omega)) HZZ).mono ?_
    rintro e w14 ⟨rfl, hb⟩
    have HB := Lib.hid ((HE.out.step HB13.out).step hb).bel
    clear hb
    go_wp2
    go_ret
    exact ⟨rfl, HB.out⟩

end Go.Proofs.YtcamkjafpnojkaaGreatDoor
