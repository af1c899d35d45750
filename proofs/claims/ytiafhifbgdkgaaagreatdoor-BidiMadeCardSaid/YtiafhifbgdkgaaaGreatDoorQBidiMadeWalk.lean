/-
  The walk of BidiMade (genBL.py).
-/
import Derived.Test.YtiafhifbgdkgaaaGreatDoorPkZZN
import Derived.Test.YtiafhifbgdkgaaaGreatDoorQTblQ
import Derived.Deep.RegionHeld3
set_option linter.unusedSimpArgs false
set_option linter.unusedVariables false
namespace Go.Proofs.YtiafhifbgdkgaaaGreatDoor
open Go.RowKit
set_option linter.unusedVariables false

theorem LEnv.al {w0 w : World} {g : Nat} {x : TV} {T : Tb} (h : LEnv w0 g x T w) (o : Obj) : LEnv w0 g x T (w.alloc o) := h.step ((Below.refl _ _).alloc (Nat.le_refl _) o)

set_option maxRecDepth 100000 in
set_option maxHeartbeats 8000000 in
theorem bidiMade_walk (p0 : Option Addr) (cap0 : Nat) (zs0 : List Int) (p1 : Option Addr) (cap1 : Nat) (zs1 : List Int) (p2 : Option Addr) (cap2 : Nat) (zs2 : List Int) (p3 : Option Addr) (cap3 : Nat) (zs3 : List Int) (w : World) (hin0 : IntsIn w p0 zs0) (hl0 : zs0.length ≤ 17592186043904) (hin1 : IntsIn w p1 zs1) (hl1 : zs1.length ≤ 17592186043904) (hin2 : IntsIn w p2 zs2) (hl2 : zs2.length ≤ 17592186043904) (hin3 : IntsIn w p3 zs3) (hl3 : zs3.length ≤ 17592186043904) (hr : Rsv w) :
    Calls Tryz.prog 3 #[.slice p0 zs0.length cap0, .slice p1 zs1.length cap1, .slice p2 zs2.length cap2, .slice p3 zs3.length cap3] w (Gives (.bool true) w) := by
  have HI0 := Lib.hid hin0
  have HL0 := Lib.hid hl0
  have HI1 := Lib.hid hin1
  have HL1 := Lib.hid hl1
  have HI2 := Lib.hid hin2
  have HL2 := Lib.hid hl2
  have HI3 := Lib.hid hin3
  have HL3 := Lib.hid hl3
  have HR := Lib.hid hr
  clear hin0 hl0 hin1 hl1 hin2 hl2 hin3 hl3 hr
  go_enter Tryz.func3, Tryz.ntmps3
  go_wp2_with fail
  refine (tables_any p0 cap0 zs0 _ HI0.out HL0.out).mono ?_
  rintro e w1 ⟨⟨a0, a1, a2, a3, a4, a5, a6, a7, a8, a9, a10, a11⟩, T, rfl, htv, hm, hcap1, hb1⟩
  obtain ⟨pa0, na0, qa0, hsl0⟩ : Slc a0 := htv.cat.slc
  subst hsl0
  obtain ⟨pa1, na1, qa1, hsl1⟩ : Slc a1 := htv.cls.slc
  subst hsl1
  obtain ⟨pa2, na2, qa2, hsl2⟩ : Slc a2 := htv.joi.slc
  subst hsl2
  obtain ⟨pa3, na3, qa3, hsl3⟩ : Slc a3 := htv.bid.slc
  subst hsl3
  obtain ⟨pa4, na4, qa4, hsl4⟩ : Slc a4 := htv.scr.slc
  subst hsl4
  obtain ⟨pa5, na5, qa5, hsl5⟩ : Slc a5 := htv.sta.slc
  subst hsl5
  obtain ⟨pa6, na6, qa6, hsl6⟩ : Slc a6 := htv.ign.slc
  subst hsl6
  obtain ⟨pa7, na7, qa7, hsl7⟩ : Slc a7 := htv.ext.slc
  subst hsl7
  obtain ⟨pa8, na8, qa8, hsl8⟩ : Slc a8 := htv.map.slc
  subst hsl8
  obtain ⟨pa9, na9, qa9, hsl9⟩ : Slc a9 := htv.dec.slc
  subst hsl9
  obtain ⟨pa10, na10, qa10, hsl10⟩ : Slc a10 := htv.exc.slc
  subst hsl10
  obtain ⟨pa11, na11, qa11, hsl11⟩ : Slc a11 := htv.pro.slc
  subst hsl11
  have hba1 : Below w1.heap.size w1 (w1.alloc (.cells (tabCells ⟨.slice pa0 na0 qa0, .slice pa1 na1 qa1, .slice pa2 na2 qa2, .slice pa3 na3 qa3, .slice pa4 na4 qa4, .slice pa5 na5 qa5, .slice pa6 na6 qa6, .slice pa7 na7 qa7, .slice pa8 na8 qa8, .slice pa9 na9 qa9, .slice pa10 na10 qa10, .slice pa11 na11 qa11⟩) 26)) := (Below.refl _ _).alloc (Nat.le_refl _) _
  have HT1 : Hid (TabV (w1.alloc (.cells (tabCells ⟨.slice pa0 na0 qa0, .slice pa1 na1 qa1, .slice pa2 na2 qa2, .slice pa3 na3 qa3, .slice pa4 na4 qa4, .slice pa5 na5 qa5, .slice pa6 na6 qa6, .slice pa7 na7 qa7, .slice pa8 na8 qa8, .slice pa9 na9 qa9, .slice pa10 na10 qa10, .slice pa11 na11 qa11⟩) 26)) ⟨.slice pa0 na0 qa0, .slice pa1 na1 qa1, .slice pa2 na2 qa2, .slice pa3 na3 qa3, .slice pa4 na4 qa4, .slice pa5 na5 qa5, .slice pa6 na6 qa6, .slice pa7 na7 qa7, .slice pa8 na8 qa8, .slice pa9 na9 qa9, .slice pa10 na10 qa10, .slice pa11 na11 qa11⟩ T) := htv.below hba1
  have HX1 : Hid (BoxT (w1.alloc (.cells (tabCells ⟨.slice pa0 na0 qa0, .slice pa1 na1 qa1, .slice pa2 na2 qa2, .slice pa3 na3 qa3, .slice pa4 na4 qa4, .slice pa5 na5 qa5, .slice pa6 na6 qa6, .slice pa7 na7 qa7, .slice pa8 na8 qa8, .slice pa9 na9 qa9, .slice pa10 na10 qa10, .slice pa11 na11 qa11⟩) 26)) w1.heap.size ⟨.slice pa0 na0 qa0, .slice pa1 na1 qa1, .slice pa2 na2 qa2, .slice pa3 na3 qa3, .slice pa4 na4 qa4, .slice pa5 na5 qa5, .slice pa6 na6 qa6, .slice pa7 na7 qa7, .slice pa8 na8 qa8, .slice pa9 na9 qa9, .slice pa10 na10 qa10, .slice pa11 na11 qa11⟩) := BoxT.new _ _ _
  have HB1 : Hid (Below w.heap.size w (w1.alloc (.cells (tabCells ⟨.slice pa0 na0 qa0, .slice pa1 na1 qa1, .slice pa2 na2 qa2, .slice pa3 na3 qa3, .slice pa4 na4 qa4, .slice pa5 na5 qa5, .slice pa6 na6 qa6, .slice pa7 na7 qa7, .slice pa8 na8 qa8, .slice pa9 na9 qa9, .slice pa10 na10 qa10, .slice pa11 na11 qa11⟩) 26))) := hb1.trans (hba1.mono hb1.size)
  have HM := Lib.hid hm
  have HCAP : Hid (CapOf ⟨.slice pa0 na0 qa0, .slice pa1 na1 qa1, .slice pa2 na2 qa2, .slice pa3 na3 qa3, .slice pa4 na4 qa4, .slice pa5 na5 qa5, .slice pa6 na6 qa6, .slice pa7 na7 qa7, .slice pa8 na8 qa8, .slice pa9 na9 qa9, .slice pa10 na10 qa10, .slice pa11 na11 qa11⟩) := hcap1
  clear htv hm hcap1 hb1 hba1
  simp only [tabCells] at HT1 HX1 HB1
  go_upto_region 2 with (fail)
  generalize (w1.alloc (.cells #[.slice pa0 na0 qa0, .slice pa1 na1 qa1, .slice pa2 na2 qa2, .slice pa3 na3 qa3, .slice pa4 na4 qa4, .slice pa5 na5 qa5, .slice pa6 na6 qa6, .slice pa7 na7 qa7, .slice pa8 na8 qa8, .slice pa9 na9 qa9, .slice pa10 na10 qa10, .slice pa11 na11 qa11] 26)) = W at HT1 HX1 HB1 ⊢
  generalize w1.heap.size = g at HX1 ⊢
  generalize (⟨.slice pa0 na0 qa0, .slice pa1 na1 qa1, .slice pa2 na2 qa2, .slice pa3 na3 qa3, .slice pa4 na4 qa4, .slice pa5 na5 qa5, .slice pa6 na6 qa6, .slice pa7 na7 qa7, .slice pa8 na8 qa8, .slice pa9 na9 qa9, .slice pa10 na10 qa10, .slice pa11 na11 qa11⟩ : TV) = x at HT1 HX1 HCAP
  have HE : Hid (LEnv w g x T W) := ⟨HT1.out, HX1.out, HB1.out⟩
  clear HT1 HX1 HB1
  obtain ⟨m1, hm1⟩ : ∃ m, zs1.length = m := ⟨_, rfl⟩
  obtain ⟨m2, hm2⟩ : ∃ m, zs2.length = m := ⟨_, rfl⟩
  obtain ⟨m3, hm3⟩ : ∃ m, zs3.length = m := ⟨_, rfl⟩
  have hp1 := fun W h1 => points_any p1 cap1 zs1 W h1 HL1.out
  have hp2 := fun W h1 => points_any p2 cap2 zs2 W h1 HL2.out
  have hj1 := fun W h1 => mixed_any p1 cap1 zs1 W h1 HL1.out
  have hj2 := fun W h1 => mixed_any p2 cap2 zs2 W h1 HL2.out
  have hj3 := fun W h1 => mixed_any p3 cap3 zs3 W h1 HL3.out
  have hga := fun pa ca (xa xb xc xd : List Int) pl W (h1 : TabV W x T) h2 (h5 : xa.length ≤ 10) h3 (hb : xb.length ≤ 10) (hc : xc.length ≤ 10) (hd : xd.length ≤ 10) h4 => agrees16_at x T pa xa.length ca xa pl 3 3 [xb, xc, xd] W h1 HCAP.out h2 h3 (Lib.hid rfl) (by omega) h4 (Lib.hid rfl) (by omega) (by intro l hl; simp at hl; rcases hl with rfl | rfl | rfl <;> omega)
  have hgb := fun pa ca (xa xb : List Int) pl W (h1 : TabV W x T) h2 (h5 : xa.length ≤ 10) h3 (hb : xb.length ≤ 10) h4 => agrees16_at x T pa xa.length ca xa pl 1 1 [xb] W h1 HCAP.out h2 h3 (Lib.hid rfl) (by omega) h4 (Lib.hid rfl) (by omega) (by intro l hl; simp at hl; subst hl; omega)
  rw [hm1] at hp1 hj1 ⊢
  rw [hm2] at hp2 hj2 ⊢
  rw [hm3] at hj3 ⊢
  have HP1 := Lib.hid hp1
  have HP2 := Lib.hid hp2
  have HJ1 := Lib.hid hj1
  have HJ2 := Lib.hid hj2
  have HJ3 := Lib.hid hj3
  have HGA := Lib.hid hga
  have HGB := Lib.hid hgb
  have e0 := HE.out.step (drew_one W)
  have HE0 := Lib.hid e0
  clear hp1 hp2 hj1 hj2 hj3 hm1 hm2 hm3 hga hgb e0
  obtain ⟨⟨k0, k1, k2, k3, k4, k5⟩, ⟨k6, k7, k8, k9, k10, k11⟩⟩ := HE.out.box.load
  go_region_held3 (boxF g x)
    (first
      | exact HE0.out.box.flat
      | exact (HE0.out.step hb3).box.flat
      | exact ((HE0.out.step hb3).step hb4).box.flat
      | exact (((HE0.out.step hb3).step hb4).step hb5).box.flat
      | exact ((((HE0.out.step hb3).step hb4).step hb5).step hb6).box.flat
      | exact (((((HE0.out.step hb3).step hb4).step hb5).step hb6).step hb7).box.flat
      | exact ((((((HE0.out.step hb3).step hb4).step hb5).step hb6).step hb7).al _).box.flat
      | exact (((((((HE0.out.step hb3).step hb4).step hb5).step hb6).step hb7).al _).step hb8).box.flat
      | exact ((((((((HE0.out.step hb3).step hb4).step hb5).step hb6).step hb7).al _).step hb8).step hb9).box.flat
      | exact (((((((((HE0.out.step hb3).step hb4).step hb5).step hb6).step hb7).al _).step hb8).step hb9).step hb10).box.flat
      | exact ((((((((((HE0.out.step hb3).step hb4).step hb5).step hb6).step hb7).al _).step hb8).step hb9).step hb10).al _).box.flat
      | exact (((((((((((HE0.out.step hb3).step hb4).step hb5).step hb6).step hb7).al _).step hb8).step hb9).step hb10).al _).step hb11).box.flat)
    (first
      | (go_at_call 6; (with_reducible refine (awake16_any _ (HR.out.below HE0.out.bel)).mono ?_); rintro e w3 ⟨rfl, hb3⟩)
      | (go_at_call 8; (with_reducible refine (HJ1.out _ (HI1.out.below (HE0.out.step hb3).bel)).mono ?_); rintro e w4 ⟨xa, v4, rfl, hn4, hs4, hi4, hb4⟩; obtain ⟨p4, c4, e4, h4, l4⟩ := ints_capL hi4; subst e4)
      | (go_at_call 8; (with_reducible refine (HJ1.out _ (HI1.out.below ((HE0.out.step hb3).step hb4).bel)).mono ?_); rintro e w5 ⟨xb, v5, rfl, hn5, hs5, hi5, hb5⟩; obtain ⟨p5, c5, e5, h5, l5⟩ := ints_capL hi5; subst e5)
      | (go_at_call 8; (with_reducible refine (HJ2.out _ (HI2.out.below (((HE0.out.step hb3).step hb4).step hb5).bel)).mono ?_); rintro e w6 ⟨xc, v6, rfl, hn6, hs6, hi6, hb6⟩; obtain ⟨p6, c6, e6, h6, l6⟩ := ints_capL hi6; subst e6)
      | (go_at_call 8; (with_reducible refine (HJ3.out _ (HI3.out.below ((((HE0.out.step hb3).step hb4).step hb5).step hb6).bel)).mono ?_); rintro e w7 ⟨xd, v7, rfl, hn7, hs7, hi7, hb7⟩; obtain ⟨p7, c7, e7, h7, l7⟩ := ints_capL hi7; subst e7)
      | (go_at_call 7; (with_reducible refine (HGA.out p4 c4 xa xb xc xd _ _ ((((((HE0.out.step hb3).step hb4).step hb5).step hb6).step hb7).al _).tab (HR.out.below ((((((HE0.out.step hb3).step hb4).step hb5).step hb6).step hb7).al _).bel) hn4 ((((h4.below hb5).below hb6).below hb7).alloc _) hn5 hn6 hn7 (ls3 ((h5.below hb6).below hb7) l5 (h6.below hb7) l6 h7 l7)).mono ?_); rintro e w8 ⟨rfl, hb8⟩)
      | (go_at_call 9; (with_reducible refine (HP2.out _ (HI2.out.below (((((((HE0.out.step hb3).step hb4).step hb5).step hb6).step hb7).al _).step hb8).bel)).mono ?_); rintro e w9 ⟨ya, v9, rfl, hn9, hs9, hi9, hb9⟩; obtain ⟨p9, c9, e9, h9, l9⟩ := ints_capL hi9; subst e9)
      | (go_at_call 9; (with_reducible refine (HP1.out _ (HI1.out.below ((((((((HE0.out.step hb3).step hb4).step hb5).step hb6).step hb7).al _).step hb8).step hb9).bel)).mono ?_); rintro e w10 ⟨yb, v10, rfl, hn10, hs10, hi10, hb10⟩; obtain ⟨p10, c10, e10, h10, l10⟩ := ints_capL hi10; subst e10)
      | (go_at_call 7; (with_reducible refine (HGB.out p9 c9 ya yb _ _ ((((((((((HE0.out.step hb3).step hb4).step hb5).step hb6).step hb7).al _).step hb8).step hb9).step hb10).al _).tab (HR.out.below ((((((((((HE0.out.step hb3).step hb4).step hb5).step hb6).step hb7).al _).step hb8).step hb9).step hb10).al _).bel) hn9 ((h9.below hb10).alloc _) hn10 (ls1 h10 l10)).mono ?_); rintro e w11 ⟨rfl, hb11⟩)
      | fail)
  all_goals
    have HBZ := Lib.hid ((((((((((((HE0.out.step hb3).step hb4).step hb5).step hb6).step hb7).al _).step hb8).step hb9).step hb10).al _).step hb11)).bel
    clear hb3 hb4 hb5 hb6 hb7 hb8 hb9 hb10 hb11
    go_wp2
    go_ret
    exact ⟨by simp, HBZ.out⟩

end Go.Proofs.YtiafhifbgdkgaaaGreatDoor
