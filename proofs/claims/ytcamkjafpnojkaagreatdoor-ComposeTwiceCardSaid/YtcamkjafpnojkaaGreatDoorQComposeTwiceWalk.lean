/-
  The walk of ComposeTwice (genCW.py).
-/
import Derived.Test.YtcamkjafpnojkaaGreatDoorPkZU
import Derived.Test.YtcamkjafpnojkaaGreatDoorQTblQ
set_option linter.unusedSimpArgs false
set_option linter.unusedVariables false
namespace Go.Proofs.YtcamkjafpnojkaaGreatDoor
open Go.RowKit
set_option linter.unusedVariables false

set_option maxRecDepth 100000 in
set_option maxHeartbeats 8000000 in
theorem composeTwice_walk (p0 : Option Addr) (cap0 : Nat) (zs0 : List Int) (p1 : Option Addr) (cap1 : Nat) (zs1 : List Int) (w : World) (hin0 : IntsIn w p0 zs0) (hl0 : zs0.length ≤ 17592186043904) (hin1 : IntsIn w p1 zs1) (hl1 : zs1.length ≤ 17592186043904) (hr : Rsv w) :
    Calls Tryz.prog 6 #[.slice p0 zs0.length cap0, .slice p1 zs1.length cap1] w (Gives (.bool true) w) := by
  have HI0 := Lib.hid hin0
  have HL0 := Lib.hid hl0
  have HI1 := Lib.hid hin1
  have HL1 := Lib.hid hl1
  have HR := Lib.hid hr
  clear hin0 hl0 hin1 hl1 hr
  go_enter Tryz.func6, Tryz.ntmps6
  go_wp2_with fail
  refine (tables_any p0 cap0 zs0 _ HI0.out HL0.out).mono ?_
  rintro e w1 ⟨⟨a0, a1, a2, a3, a4, a5, a6, a7, a8, a9, a10, a11⟩, T, rfl, htv, hm, hcap1, hb1⟩
  obtain ⟨pa0, na0, qa0, hsl0⟩ : Slc a0 := htv.cat.slc
  subst hsl0
  obtain ⟨pa1, na1, qa1, hsl1⟩ : Slc a1 := htv.cls.slc
  subst hsl1
  obtain ⟨pa2, na2, qa2, hsl2⟩ : Slc a2 := htv.joi.slc
  subst hsl2
  obtain ⟨pa3, na3, qa3, hsl3⟩ : Slc a3 := htv.bid.slc
  subst hsl3
  obtain ⟨pa4, na4, qa4, hsl4⟩ : Slc a4 := htv.scr.slc
  subst hsl4
  obtain ⟨pa5, na5, qa5, hsl5⟩ : Slc a5 := htv.sta.slc
  subst hsl5
  obtain ⟨pa6, na6, qa6, hsl6⟩ : Slc a6 := htv.ign.slc
  subst hsl6
  obtain ⟨pa7, na7, qa7, hsl7⟩ : Slc a7 := htv.ext.slc
  subst hsl7
  obtain ⟨pa8, na8, qa8, hsl8⟩ : Slc a8 := htv.map.slc
  subst hsl8
  obtain ⟨pa9, na9, qa9, hsl9⟩ : Slc a9 := htv.dec.slc
  subst hsl9
  obtain ⟨pa10, na10, qa10, hsl10⟩ : Slc a10 := htv.exc.slc
  subst hsl10
  obtain ⟨pa11, na11, qa11, hsl11⟩ : Slc a11 := htv.pro.slc
  subst hsl11
  have hba1 : Below w1.heap.size w1 (w1.alloc (.cells (tabCells ⟨.slice pa0 na0 qa0, .slice pa1 na1 qa1, .slice pa2 na2 qa2, .slice pa3 na3 qa3, .slice pa4 na4 qa4, .slice pa5 na5 qa5, .slice pa6 na6 qa6, .slice pa7 na7 qa7, .slice pa8 na8 qa8, .slice pa9 na9 qa9, .slice pa10 na10 qa10, .slice pa11 na11 qa11⟩) 26)) := (Below.refl _ _).alloc (Nat.le_refl _) _
  have HT1 : Hid (TabV (w1.alloc (.cells (tabCells ⟨.slice pa0 na0 qa0, .slice pa1 na1 qa1, .slice pa2 na2 qa2, .slice pa3 na3 qa3, .slice pa4 na4 qa4, .slice pa5 na5 qa5, .slice pa6 na6 qa6, .slice pa7 na7 qa7, .slice pa8 na8 qa8, .slice pa9 na9 qa9, .slice pa10 na10 qa10, .slice pa11 na11 qa11⟩) 26)) ⟨.slice pa0 na0 qa0, .slice pa1 na1 qa1, .slice pa2 na2 qa2, .slice pa3 na3 qa3, .slice pa4 na4 qa4, .slice pa5 na5 qa5, .slice pa6 na6 qa6, .slice pa7 na7 qa7, .slice pa8 na8 qa8, .slice pa9 na9 qa9, .slice pa10 na10 qa10, .slice pa11 na11 qa11⟩ T) := htv.below hba1
  have HX1 : Hid (BoxT (w1.alloc (.cells (tabCells ⟨.slice pa0 na0 qa0, .slice pa1 na1 qa1, .slice pa2 na2 qa2, .slice pa3 na3 qa3, .slice pa4 na4 qa4, .slice pa5 na5 qa5, .slice pa6 na6 qa6, .slice pa7 na7 qa7, .slice pa8 na8 qa8, .slice pa9 na9 qa9, .slice pa10 na10 qa10, .slice pa11 na11 qa11⟩) 26)) w1.heap.size ⟨.slice pa0 na0 qa0, .slice pa1 na1 qa1, .slice pa2 na2 qa2, .slice pa3 na3 qa3, .slice pa4 na4 qa4, .slice pa5 na5 qa5, .slice pa6 na6 qa6, .slice pa7 na7 qa7, .slice pa8 na8 qa8, .slice pa9 na9 qa9, .slice pa10 na10 qa10, .slice pa11 na11 qa11⟩) := BoxT.new _ _ _
  have HB1 : Hid (Below w.heap.size w (w1.alloc (.cells (tabCells ⟨.slice pa0 na0 qa0, .slice pa1 na1 qa1, .slice pa2 na2 qa2, .slice pa3 na3 qa3, .slice pa4 na4 qa4, .slice pa5 na5 qa5, .slice pa6 na6 qa6, .slice pa7 na7 qa7, .slice pa8 na8 qa8, .slice pa9 na9 qa9, .slice pa10 na10 qa10, .slice pa11 na11 qa11⟩) 26))) := hb1.trans (hba1.mono hb1.size)
  have HM := Lib.hid hm
  have HCAP : Hid (CapOf ⟨.slice pa0 na0 qa0, .slice pa1 na1 qa1, .slice pa2 na2 qa2, .slice pa3 na3 qa3, .slice pa4 na4 qa4, .slice pa5 na5 qa5, .slice pa6 na6 qa6, .slice pa7 na7 qa7, .slice pa8 na8 qa8, .slice pa9 na9 qa9, .slice pa10 na10 qa10, .slice pa11 na11 qa11⟩) := hcap1
  clear htv hm hcap1 hb1 hba1
  simp only [tabCells] at HT1 HX1 HB1
  go_wp2_with fail
  generalize (w1.alloc (.cells #[.slice pa0 na0 qa0, .slice pa1 na1 qa1, .slice pa2 na2 qa2, .slice pa3 na3 qa3, .slice pa4 na4 qa4, .slice pa5 na5 qa5, .slice pa6 na6 qa6, .slice pa7 na7 qa7, .slice pa8 na8 qa8, .slice pa9 na9 qa9, .slice pa10 na10 qa10, .slice pa11 na11 qa11] 26)) = W at HT1 HX1 HB1 ⊢
  generalize w1.heap.size = g at HX1 ⊢
  generalize (⟨.slice pa0 na0 qa0, .slice pa1 na1 qa1, .slice pa2 na2 qa2, .slice pa3 na3 qa3, .slice pa4 na4 qa4, .slice pa5 na5 qa5, .slice pa6 na6 qa6, .slice pa7 na7 qa7, .slice pa8 na8 qa8, .slice pa9 na9 qa9, .slice pa10 na10 qa10, .slice pa11 na11 qa11⟩ : TV) = x at HT1 HX1 HCAP
  have HE : Hid (LEnv w g x T W) := ⟨HT1.out, HX1.out, HB1.out⟩
  clear HT1 HX1 HB1
  refine (dense_any p1 cap1 zs1 _ (HI1.out.below HE.out.bel) HL1.out).mono ?_
  rintro e wa ⟨xs, va, rfl, hna, hsa, hi, hb⟩
  obtain ⟨pa, ca, rfl, hia⟩ := hi.inn
  replace HE := Lib.hid (HE.out.step hb)
  have Ha := Lib.hid hia
  have HSa := Lib.hid hsa
  clear hi hb hia hsa
  have hex := nfd_small (T := T) HM.out.check HSa.out (by omega)
  obtain ⟨c, hc⟩ : ∃ c, nfcL T xs = c := ⟨_, rfl⟩
  obtain ⟨d, hd⟩ : ∃ d, nfdL T xs = d := ⟨_, rfl⟩
  have HEX := Lib.hid hex
  have HC := Lib.hid hc
  have HD := Lib.hid hd
  have a1 := nfc_nfd hex
  have a2 := nfc_twice hex
  have a3 := nfc_of_nfd hex
  have a4 := nfd_twice hex
  have a5 := nfcL_len T xs
  have a6 := nfdL_len T xs
  rw [hc] at a1 a2 a3 a5
  rw [hd] at a1 a3 a4 a6
  obtain ⟨b1, b2⟩ := a1
  obtain ⟨b3, b4⟩ := a2
  have B1 : Hid (nfdE T c = 0) := b1
  have B2 : Hid (nfdL T c = d) := b2
  have B3 : Hid (nfcL T c = c) := b3
  have B4 : Hid (isnC T c = true) := b4
  have B5 : Hid (nfcL T d = c) := a3
  have B6 : Hid (nfdE T d = 0) := a4.1
  have n1 := fun W (h1 : TabV W x T) h2 h3 => nfc_at x T pa ca xs 0 c W h1 h2 h3 (by omega) HEX HC
  have n2 := fun W (h1 : TabV W x T) h2 => rnfd_at x T pa ca xs 0 d W h1 HCAP.out h2 (by omega) HEX HD
  have n3 := fun p cp W (h1 : TabV W x T) h2 h3 => nfc_at x T p cp c 0 c W h1 h2 h3 (by omega) B1 B3
  have n4 := fun p cp W (h1 : TabV W x T) h2 => rnfd_at x T p cp c 0 d W h1 HCAP.out h2 (by omega) B1 B2
  have n5 := fun p cp W (h1 : TabV W x T) h2 h3 => nfc_at x T p cp d 0 c W h1 h2 h3 (by omega) B6 B5
  have n6 := fun p cp W (h1 : TabV W x T) h2 h3 => isnfc_at x T p cp c true W h1 h2 h3 (by omega) B4
  have HCL : Hid (c.length ≤ 17592186043904) := by unfold Hid; omega
  have HDL : Hid (d.length ≤ 17592186043904) := by unfold Hid; omega
  obtain ⟨na, hna⟩ : ∃ n, xs.length = n := ⟨_, rfl⟩
  obtain ⟨nc, hnc⟩ : ∃ n, c.length = n := ⟨_, rfl⟩
  obtain ⟨nd, hnd⟩ : ∃ n, d.length = n := ⟨_, rfl⟩
  rw [hna] at n1 n2 ⊢
  rw [hnc] at n3 n4 n6
  rw [hnd] at n5
  have N1 := Lib.hid n1
  have N2 := Lib.hid n2
  have N3 := Lib.hid n3
  have N4 := Lib.hid n4
  have N5 := Lib.hid n5
  have N6 := Lib.hid n6
  have HNC := Lib.hid hnc
  have HND := Lib.hid hnd
  have HCC : Hid ((c == c) = true) := by simp [Hid]
  have HDD : Hid ((d == d) = true) := by simp [Hid]
  clear n1 n2 n3 n4 n5 n6 hna hnc hnd hc hd hex a3 a4 a5 a6 b1 b2 b3 b4 B1 B2 B3 B4 B5 B6 HEX HC HD
  obtain ⟨⟨k0, k1, k2, k3, k4, k5⟩, ⟨k6, k7, k8, k9, k10, k11⟩⟩ := HE.out.box.load
  go_wp2_with fail
  refine (N1.out _ HE.out.tab (HR.out.below HE.out.bel) Ha.out).mono ?_
  rintro e w4 ⟨v4, rfl, hi, hb⟩
  obtain ⟨p4, c4, e4, hi4⟩ := hi.inn
  rw [HNC.out] at e4
  subst e4
  replace HE := Lib.hid (HE.out.step hb)
  replace Ha := Lib.hid (Ha.out.below hb)
  have H4 := Lib.hid hi4
  clear hi hi4 hb k0 k1 k2 k3 k4 k5 k6 k7 k8 k9 k10 k11
  obtain ⟨⟨k0, k1, k2, k3, k4, k5⟩, ⟨k6, k7, k8, k9, k10, k11⟩⟩ := HE.out.box.load
  go_wp2_with fail
  refine (N2.out _ HE.out.tab Ha.out).mono ?_
  rintro e w5 ⟨v5, rfl, hi, hb⟩
  obtain ⟨p5, c5, e5, hi5⟩ := hi.inn
  rw [HND.out] at e5
  subst e5
  replace HE := Lib.hid (HE.out.step hb)
  replace Ha := Lib.hid (Ha.out.below hb)
  replace H4 := Lib.hid (H4.out.below hb)
  have H5 := Lib.hid hi5
  clear hi hi5 hb k0 k1 k2 k3 k4 k5 k6 k7 k8 k9 k10 k11
  obtain ⟨⟨k0, k1, k2, k3, k4, k5⟩, ⟨k6, k7, k8, k9, k10, k11⟩⟩ := HE.out.box.load
  go_wp2_with fail
  refine (N3.out p4 c4 _ HE.out.tab (HR.out.below HE.out.bel) H4.out).mono ?_
  rintro e w6 ⟨v6, rfl, hi, hb⟩
  obtain ⟨p6, c6, e6, hi6⟩ := hi.inn
  rw [HNC.out] at e6
  subst e6
  replace HE := Lib.hid (HE.out.step hb)
  replace H4 := Lib.hid (H4.out.below hb)
  replace H5 := Lib.hid (H5.out.below hb)
  have H6 := Lib.hid hi6
  clear hi hi6 hb k0 k1 k2 k3 k4 k5 k6 k7 k8 k9 k10 k11 Ha
  obtain ⟨⟨k0, k1, k2, k3, k4, k5⟩, ⟨k6, k7, k8, k9, k10, k11⟩⟩ := HE.out.box.load
  go_wp2_with fail
  refine (N4.out p4 c4 _ HE.out.tab H4.out).mono ?_
  rintro e w7 ⟨v7, rfl, hi, hb⟩
  obtain ⟨p7, c7, e7, hi7⟩ := hi.inn
  rw [HND.out] at e7
  subst e7
  replace HE := Lib.hid (HE.out.step hb)
  replace H4 := Lib.hid (H4.out.below hb)
  replace H5 := Lib.hid (H5.out.below hb)
  replace H6 := Lib.hid (H6.out.below hb)
  have H7 := Lib.hid hi7
  clear hi hi7 hb k0 k1 k2 k3 k4 k5 k6 k7 k8 k9 k10 k11
  obtain ⟨⟨k0, k1, k2, k3, k4, k5⟩, ⟨k6, k7, k8, k9, k10, k11⟩⟩ := HE.out.box.load
  go_wp2_with fail
  refine (N5.out p5 c5 _ HE.out.tab (HR.out.below HE.out.bel) H5.out).mono ?_
  rintro e w8 ⟨v8, rfl, hi, hb⟩
  obtain ⟨p8, c8, e8, hi8⟩ := hi.inn
  rw [HNC.out] at e8
  subst e8
  replace HE := Lib.hid (HE.out.step hb)
  replace H4 := Lib.hid (H4.out.below hb)
  replace H5 := Lib.hid (H5.out.below hb)
  replace H6 := Lib.hid (H6.out.below hb)
  replace H7 := Lib.hid (H7.out.below hb)
  have H8 := Lib.hid hi8
  clear hi hi8 hb k0 k1 k2 k3 k4 k5 k6 k7 k8 k9 k10 k11
  go_wp2_with fail
  refine (awake8_any _ (HR.out.below HE.out.bel)).mono ?_
  rintro e w9 ⟨rfl, hb⟩
  replace HE := Lib.hid (HE.out.step hb)
  replace H4 := Lib.hid (H4.out.below hb)
  replace H5 := Lib.hid (H5.out.below hb)
  replace H6 := Lib.hid (H6.out.below hb)
  replace H7 := Lib.hid (H7.out.below hb)
  replace H8 := Lib.hid (H8.out.below hb)
  clear hb
  go_wp2_with fail
  refine (same_at (.slice p6 nc c6) (.slice p4 nc c4) c c true _ (slice_inV HNC.out (by rw [← HNC.out]; exact HCL.out) H6.out) (slice_inV HNC.out (by rw [← HNC.out]; exact HCL.out) H4.out) HCC).mono ?_
  rintro e w10 ⟨rfl, hb⟩
  replace HE := Lib.hid (HE.out.step hb)
  replace H4 := Lib.hid (H4.out.below hb)
  replace H5 := Lib.hid (H5.out.below hb)
  replace H6 := Lib.hid (H6.out.below hb)
  replace H7 := Lib.hid (H7.out.below hb)
  replace H8 := Lib.hid (H8.out.below hb)
  clear hb
  go_wp2_with fail
  refine (same_at (.slice p7 nd c7) (.slice p5 nd c5) d d true _ (slice_inV HND.out (by rw [← HND.out]; exact HDL.out) H7.out) (slice_inV HND.out (by rw [← HND.out]; exact HDL.out) H5.out) HDD).mono ?_
  rintro e w11 ⟨rfl, hb⟩
  replace HE := Lib.hid (HE.out.step hb)
  replace H4 := Lib.hid (H4.out.below hb)
  replace H5 := Lib.hid (H5.out.below hb)
  replace H6 := Lib.hid (H6.out.below hb)
  replace H7 := Lib.hid (H7.out.below hb)
  replace H8 := Lib.hid (H8.out.below hb)
  clear hb
  go_wp2_with fail
  refine (same_at (.slice p8 nc c8) (.slice p4 nc c4) c c true _ (slice_inV HNC.out (by rw [← HNC.out]; exact HCL.out) H8.out) (slice_inV HNC.out (by rw [← HNC.out]; exact HCL.out) H4.out) HCC).mono ?_
  rintro e w12 ⟨rfl, hb⟩
  replace HE := Lib.hid (HE.out.step hb)
  replace H4 := Lib.hid (H4.out.below hb)
  replace H5 := Lib.hid (H5.out.below hb)
  replace H6 := Lib.hid (H6.out.below hb)
  replace H7 := Lib.hid (H7.out.below hb)
  replace H8 := Lib.hid (H8.out.below hb)
  clear hb
  obtain ⟨⟨k0, k1, k2, k3, k4, k5⟩, ⟨k6, k7, k8, k9, k10, k11⟩⟩ := HE.out.box.load
  go_wp2_with fail
  refine (N6.out p4 c4 _ HE.out.tab (HR.out.below HE.out.bel) H4.out).mono ?_
  rintro e w13 ⟨rfl, hb⟩
  have HB := Lib.hid (HE.out.step hb).bel
  clear hb k0 k1 k2 k3 k4 k5 k6 k7 k8 k9 k10 k11
  go_wp2
  go_ret
  exact ⟨rfl, HB.out⟩

end Go.Proofs.YtcamkjafpnojkaaGreatDoor
