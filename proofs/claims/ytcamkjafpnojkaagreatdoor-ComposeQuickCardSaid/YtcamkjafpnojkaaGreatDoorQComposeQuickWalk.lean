/-
  The walk of ComposeQuick (genCW.py).
-/
import Derived.Test.YtcamkjafpnojkaaGreatDoorPkZU
import Derived.Test.YtcamkjafpnojkaaGreatDoorQTblQ
set_option linter.unusedSimpArgs false
set_option linter.unusedVariables false
namespace Go.Proofs.YtcamkjafpnojkaaGreatDoor
open Go.RowKit
set_option linter.unusedVariables false

set_option maxRecDepth 100000 in
set_option maxHeartbeats 8000000 in
theorem composeQuick_walk (p0 : Option Addr) (cap0 : Nat) (zs0 : List Int) (p1 : Option Addr) (cap1 : Nat) (zs1 : List Int) (w : World) (hin0 : IntsIn w p0 zs0) (hl0 : zs0.length ≤ 17592186043904) (hin1 : IntsIn w p1 zs1) (hl1 : zs1.length ≤ 17592186043904) (hr : Rsv w) :
    Calls Tryz.prog 8 #[.slice p0 zs0.length cap0, .slice p1 zs1.length cap1] w (Gives (.bool true) w) := by
  have HI0 := Lib.hid hin0
  have HL0 := Lib.hid hl0
  have HI1 := Lib.hid hin1
  have HL1 := Lib.hid hl1
  have HR := Lib.hid hr
  clear hin0 hl0 hin1 hl1 hr
  go_enter Tryz.func8, Tryz.ntmps8
  go_wp2_with fail
  refine (tables_any p0 cap0 zs0 _ HI0.out HL0.out).mono ?_
  rintro e w1 ⟨⟨a0, a1, a2, a3, a4, a5, a6, a7, a8, a9, a10, a11⟩, T, rfl, htv, hm, hcap1, hb1⟩
  obtain ⟨pa0, na0, qa0, hsl0⟩ : Slc a0 := htv.cat.slc
  subst hsl0
  obtain ⟨pa1, na1, qa1, hsl1⟩ : Slc a1 := htv.cls.slc
  subst hsl1
  obtain ⟨pa2, na2, qa2, hsl2⟩ : Slc a2 := htv.joi.slc
  subst hsl2
  obtain ⟨pa3, na3, qa3, hsl3⟩ : Slc a3 := htv.bid.slc
  subst hsl3
  obtain ⟨pa4, na4, qa4, hsl4⟩ : Slc a4 := htv.scr.slc
  subst hsl4
  obtain ⟨pa5, na5, qa5, hsl5⟩ : Slc a5 := htv.sta.slc
  subst hsl5
  obtain ⟨pa6, na6, qa6, hsl6⟩ : Slc a6 := htv.ign.slc
  subst hsl6
  obtain ⟨pa7, na7, qa7, hsl7⟩ : Slc a7 := htv.ext.slc
  subst hsl7
  obtain ⟨pa8, na8, qa8, hsl8⟩ : Slc a8 := htv.map.slc
  subst hsl8
  obtain ⟨pa9, na9, qa9, hsl9⟩ : Slc a9 := htv.dec.slc
  subst hsl9
  obtain ⟨pa10, na10, qa10, hsl10⟩ : Slc a10 := htv.exc.slc
  subst hsl10
  obtain ⟨pa11, na11, qa11, hsl11⟩ : Slc a11 := htv.pro.slc
  subst hsl11
  have hba1 : Below w1.heap.size w1 (w1.alloc (.cells (tabCells ⟨.slice pa0 na0 qa0, .slice pa1 na1 qa1, .slice pa2 na2 qa2, .slice pa3 na3 qa3, .slice pa4 na4 qa4, .slice pa5 na5 qa5, .slice pa6 na6 qa6, .slice pa7 na7 qa7, .slice pa8 na8 qa8, .slice pa9 na9 qa9, .slice pa10 na10 qa10, .slice pa11 na11 qa11⟩) 26)) := (Below.refl _ _).alloc (Nat.le_refl _) _
  have HT1 : Hid (TabV (w1.alloc (.cells (tabCells ⟨.slice pa0 na0 qa0, .slice pa1 na1 qa1, .slice pa2 na2 qa2, .slice pa3 na3 qa3, .slice pa4 na4 qa4, .slice pa5 na5 qa5, .slice pa6 na6 qa6, .slice pa7 na7 qa7, .slice pa8 na8 qa8, .slice pa9 na9 qa9, .slice pa10 na10 qa10, .slice pa11 na11 qa11⟩) 26)) ⟨.slice pa0 na0 qa0, .slice pa1 na1 qa1, .slice pa2 na2 qa2, .slice pa3 na3 qa3, .slice pa4 na4 qa4, .slice pa5 na5 qa5, .slice pa6 na6 qa6, .slice pa7 na7 qa7, .slice pa8 na8 qa8, .slice pa9 na9 qa9, .slice pa10 na10 qa10, .slice pa11 na11 qa11⟩ T) := htv.below hba1
  have HX1 : Hid (BoxT (w1.alloc (.cells (tabCells ⟨.slice pa0 na0 qa0, .slice pa1 na1 qa1, .slice pa2 na2 qa2, .slice pa3 na3 qa3, .slice pa4 na4 qa4, .slice pa5 na5 qa5, .slice pa6 na6 qa6, .slice pa7 na7 qa7, .slice pa8 na8 qa8, .slice pa9 na9 qa9, .slice pa10 na10 qa10, .slice pa11 na11 qa11⟩) 26)) w1.heap.size ⟨.slice pa0 na0 qa0, .slice pa1 na1 qa1, .slice pa2 na2 qa2, .slice pa3 na3 qa3, .slice pa4 na4 qa4, .slice pa5 na5 qa5, .slice pa6 na6 qa6, .slice pa7 na7 qa7, .slice pa8 na8 qa8, .slice pa9 na9 qa9, .slice pa10 na10 qa10, .slice pa11 na11 qa11⟩) := BoxT.new _ _ _
  have HB1 : Hid (Below w.heap.size w (w1.alloc (.cells (tabCells ⟨.slice pa0 na0 qa0, .slice pa1 na1 qa1, .slice pa2 na2 qa2, .slice pa3 na3 qa3, .slice pa4 na4 qa4, .slice pa5 na5 qa5, .slice pa6 na6 qa6, .slice pa7 na7 qa7, .slice pa8 na8 qa8, .slice pa9 na9 qa9, .slice pa10 na10 qa10, .slice pa11 na11 qa11⟩) 26))) := hb1.trans (hba1.mono hb1.size)
  have HM := Lib.hid hm
  have HCAP : Hid (CapOf ⟨.slice pa0 na0 qa0, .slice pa1 na1 qa1, .slice pa2 na2 qa2, .slice pa3 na3 qa3, .slice pa4 na4 qa4, .slice pa5 na5 qa5, .slice pa6 na6 qa6, .slice pa7 na7 qa7, .slice pa8 na8 qa8, .slice pa9 na9 qa9, .slice pa10 na10 qa10, .slice pa11 na11 qa11⟩) := hcap1
  clear htv hm hcap1 hb1 hba1
  simp only [tabCells] at HT1 HX1 HB1
  go_wp2_with fail
  generalize (w1.alloc (.cells #[.slice pa0 na0 qa0, .slice pa1 na1 qa1, .slice pa2 na2 qa2, .slice pa3 na3 qa3, .slice pa4 na4 qa4, .slice pa5 na5 qa5, .slice pa6 na6 qa6, .slice pa7 na7 qa7, .slice pa8 na8 qa8, .slice pa9 na9 qa9, .slice pa10 na10 qa10, .slice pa11 na11 qa11] 26)) = W at HT1 HX1 HB1 ⊢
  generalize w1.heap.size = g at HX1 ⊢
  generalize (⟨.slice pa0 na0 qa0, .slice pa1 na1 qa1, .slice pa2 na2 qa2, .slice pa3 na3 qa3, .slice pa4 na4 qa4, .slice pa5 na5 qa5, .slice pa6 na6 qa6, .slice pa7 na7 qa7, .slice pa8 na8 qa8, .slice pa9 na9 qa9, .slice pa10 na10 qa10, .slice pa11 na11 qa11⟩ : TV) = x at HT1 HX1 HCAP
  have HE : Hid (LEnv w g x T W) := ⟨HT1.out, HX1.out, HB1.out⟩
  clear HT1 HX1 HB1
  refine (dense_any p1 cap1 zs1 _ (HI1.out.below HE.out.bel) HL1.out).mono ?_
  rintro e wa ⟨xs, va, rfl, hna, hsa, hi, hb⟩
  obtain ⟨pa, ca, rfl, hia⟩ := hi.inn
  replace HE := Lib.hid (HE.out.step hb)
  have Ha := Lib.hid hia
  have HSa := Lib.hid hsa
  clear hi hb hia hsa
  have HEX := Lib.hid (nfd_small (T := T) HM.out.check HSa.out (by omega))
  obtain ⟨B, hB⟩ : ∃ B, Hid (isnC T xs = B) := ⟨_, rfl⟩
  obtain ⟨q, hQ⟩ : ∃ q, Hid (quickT T xs = q) := ⟨_, rfl⟩
  have hi1 := fun W (h1 : TabV W x T) h2 h3 => isnfc_at x T pa ca xs B W h1 h2 h3 (by omega) hB
  have hi2 := fun W (h1 : TabV W x T) h2 => risnfc_at x T pa ca xs B W h1 HCAP.out h2 (by omega) hB
  have hq1 := fun W (h1 : TabV W x T) h2 h3 => quick_at x T pa ca xs q W h1 h2 h3 (by omega) hQ
  obtain ⟨na, hna⟩ : ∃ n, xs.length = n := ⟨_, rfl⟩
  rw [hna] at hi1 hi2 hq1 ⊢
  have I1 := Lib.hid hi1
  have I2 := Lib.hid hi2
  have Q1 := Lib.hid hq1
  clear hi1 hi2 hq1 hna
  obtain ⟨⟨k0, k1, k2, k3, k4, k5⟩, ⟨k6, k7, k8, k9, k10, k11⟩⟩ := HE.out.box.load
  go_wp2_with fail
  refine (I2.out _ HE.out.tab Ha.out).mono ?_
  rintro e w4 ⟨rfl, hb⟩
  replace HE := Lib.hid (HE.out.step hb)
  replace Ha := Lib.hid (Ha.out.below hb)
  clear hb k0 k1 k2 k3 k4 k5 k6 k7 k8 k9 k10 k11
  obtain ⟨⟨k0, k1, k2, k3, k4, k5⟩, ⟨k6, k7, k8, k9, k10, k11⟩⟩ := HE.out.box.load
  go_wp2_with fail
  refine (Q1.out _ HE.out.tab (HR.out.below HE.out.bel) Ha.out).mono ?_
  rintro e w5 ⟨rfl, hb⟩
  replace HE := Lib.hid (HE.out.step hb)
  replace Ha := Lib.hid (Ha.out.below hb)
  clear hb k0 k1 k2 k3 k4 k5 k6 k7 k8 k9 k10 k11
  rcases quick_cases T xs with h | h | h
  · obtain rfl : q = 0 := hQ.out.symm.trans h
    obtain rfl : B = false := hB.out.symm.trans (quick_no h)
    clear h
    go_wp2_with fail
    refine (awake8_any _ (HR.out.below HE.out.bel)).mono ?_
    rintro e w6 ⟨rfl, hb⟩
    replace HE := Lib.hid (HE.out.step hb)
    replace Ha := Lib.hid (Ha.out.below hb)
    clear hb
    obtain ⟨⟨k0, k1, k2, k3, k4, k5⟩, ⟨k6, k7, k8, k9, k10, k11⟩⟩ := HE.out.box.load
    go_wp2_with fail
    refine (I1.out _ HE.out.tab (HR.out.below HE.out.bel) Ha.out).mono ?_
    rintro e w7 ⟨rfl, hb⟩
    have HB := Lib.hid (HE.out.step hb).bel
    clear hb k0 k1 k2 k3 k4 k5 k6 k7 k8 k9 k10 k11
    go_wp2
    go_ret
    exact ⟨rfl, HB.out⟩
  · obtain rfl : q = 1 := hQ.out.symm.trans h
    obtain rfl : B = true := hB.out.symm.trans (quick_yes h HEX.out)
    clear h
    go_wp2_with fail
    refine (awake8_any _ (HR.out.below HE.out.bel)).mono ?_
    rintro e w6 ⟨rfl, hb⟩
    replace HE := Lib.hid (HE.out.step hb)
    replace Ha := Lib.hid (Ha.out.below hb)
    clear hb
    obtain ⟨⟨k0, k1, k2, k3, k4, k5⟩, ⟨k6, k7, k8, k9, k10, k11⟩⟩ := HE.out.box.load
    go_wp2_with fail
    refine (I1.out _ HE.out.tab (HR.out.below HE.out.bel) Ha.out).mono ?_
    rintro e w7 ⟨rfl, hb⟩
    have HB := Lib.hid (HE.out.step hb).bel
    clear hb k0 k1 k2 k3 k4 k5 k6 k7 k8 k9 k10 k11
    go_wp2
    go_ret
    exact ⟨rfl, HB.out⟩
  · obtain rfl : q = 2 := hQ.out.symm.trans h
    clear h
    go_wp2_with fail
    refine (awake8_any _ (HR.out.below HE.out.bel)).mono ?_
    rintro e w6 ⟨rfl, hb⟩
    have HB := Lib.hid (HE.out.step hb).bel
    clear hb
    go_wp2
    go_ret
    exact ⟨rfl, HB.out⟩

end Go.Proofs.YtcamkjafpnojkaaGreatDoor
