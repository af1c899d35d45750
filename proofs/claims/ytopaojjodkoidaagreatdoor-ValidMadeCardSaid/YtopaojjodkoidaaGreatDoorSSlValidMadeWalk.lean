/-
  The walk of ValidMade (genVW.py).
-/
import Derived.Test.YtopaojjodkoidaaGreatDoorSSlPkZZO
import Derived.Test.YtopaojjodkoidaaGreatDoorSSlValR
import Derived.Test.YtopaojjodkoidaaGreatDoorSSlTblQ
import Derived.Test.YtopaojjodkoidaaGreatDoorSSlKeepWordT
import Derived.Deep.RegionHeld3
set_option linter.unusedSimpArgs false
set_option linter.unusedVariables false
namespace Go.Proofs.YtopaojjodkoidaaGreatDoor
open Go.RowKit
set_option linter.unusedVariables false

/-- The made tables and two sequences. -/
structure OneV (w0 : World) (g : Nat) (x : TV) (T : Tb) (pa : Option Addr) (xa : List Int) (pb : Option Addr) (xb : List Int) (w : World) : Prop where
  l : LEnv w0 g x T w
  a : IntsIn w pa xa
  b : IntsIn w pb xb
theorem OneV.step {w0 w w' : World} {g : Nat} {x : TV} {T : Tb} {pa pb : Option Addr} {xa xb : List Int} (h : OneV w0 g x T pa xa pb xb w) (hb : Below w.heap.size w w') : OneV w0 g x T pa xa pb xb w' := ⟨h.l.step hb, h.a.below hb, h.b.below hb⟩

set_option maxRecDepth 100000 in
set_option maxHeartbeats 8000000 in
theorem validMade_walk (p0 : Option Addr) (cap0 : Nat) (zs0 : List Int) (p1 : Option Addr) (cap1 : Nat) (zs1 : List Int) (p2 : Option Addr) (cap2 : Nat) (zs2 : List Int) (p3 : Option Addr) (cap3 : Nat) (zs3 : List Int) (w : World) (hin0 : IntsIn w p0 zs0) (hl0 : zs0.length ≤ 17592186043904) (hin1 : IntsIn w p1 zs1) (hl1 : zs1.length ≤ 17592186043904) (hin2 : IntsIn w p2 zs2) (hl2 : zs2.length ≤ 17592186043904) (hin3 : IntsIn w p3 zs3) (hl3 : zs3.length ≤ 17592186043904) (hr : Rsv w) :
    Calls Tryz.prog 3 #[.slice p0 zs0.length cap0, .slice p1 zs1.length cap1, .slice p2 zs2.length cap2, .slice p3 zs3.length cap3] w (Gives (.bool true) w) := by
  have HI0 := Lib.hid hin0
  have HL0 := Lib.hid hl0
  have HI1 := Lib.hid hin1
  have HL1 := Lib.hid hl1
  have HI2 := Lib.hid hin2
  have HL2 := Lib.hid hl2
  have HI3 := Lib.hid hin3
  have HL3 := Lib.hid hl3
  have HR := Lib.hid hr
  clear hin0 hl0 hin1 hl1 hin2 hl2 hin3 hl3 hr
  go_enter Tryz.func3, Tryz.ntmps3
  go_wp2_with fail
  refine (tables_any p0 cap0 zs0 _ HI0.out HL0.out).mono ?_
  rintro e w1 ⟨⟨a0, a1, a2, a3, a4, a5, a6, a7, a8, a9, a10, a11⟩, T, rfl, htv, hm, hcap1, hb1⟩
  obtain ⟨pa0, na0, qa0, hsl0⟩ : Slc a0 := htv.cat.slc
  subst hsl0
  obtain ⟨pa1, na1, qa1, hsl1⟩ : Slc a1 := htv.cls.slc
  subst hsl1
  obtain ⟨pa2, na2, qa2, hsl2⟩ : Slc a2 := htv.joi.slc
  subst hsl2
  obtain ⟨pa3, na3, qa3, hsl3⟩ : Slc a3 := htv.bid.slc
  subst hsl3
  obtain ⟨pa4, na4, qa4, hsl4⟩ : Slc a4 := htv.scr.slc
  subst hsl4
  obtain ⟨pa5, na5, qa5, hsl5⟩ : Slc a5 := htv.sta.slc
  subst hsl5
  obtain ⟨pa6, na6, qa6, hsl6⟩ : Slc a6 := htv.ign.slc
  subst hsl6
  obtain ⟨pa7, na7, qa7, hsl7⟩ : Slc a7 := htv.ext.slc
  subst hsl7
  obtain ⟨pa8, na8, qa8, hsl8⟩ : Slc a8 := htv.map.slc
  subst hsl8
  obtain ⟨pa9, na9, qa9, hsl9⟩ : Slc a9 := htv.dec.slc
  subst hsl9
  obtain ⟨pa10, na10, qa10, hsl10⟩ : Slc a10 := htv.exc.slc
  subst hsl10
  obtain ⟨pa11, na11, qa11, hsl11⟩ : Slc a11 := htv.pro.slc
  subst hsl11
  have hba1 : Below w1.heap.size w1 (w1.alloc (.cells (tabCells ⟨.slice pa0 na0 qa0, .slice pa1 na1 qa1, .slice pa2 na2 qa2, .slice pa3 na3 qa3, .slice pa4 na4 qa4, .slice pa5 na5 qa5, .slice pa6 na6 qa6, .slice pa7 na7 qa7, .slice pa8 na8 qa8, .slice pa9 na9 qa9, .slice pa10 na10 qa10, .slice pa11 na11 qa11⟩) 26)) := (Below.refl _ _).alloc (Nat.le_refl _) _
  have HT1 : Hid (TabV (w1.alloc (.cells (tabCells ⟨.slice pa0 na0 qa0, .slice pa1 na1 qa1, .slice pa2 na2 qa2, .slice pa3 na3 qa3, .slice pa4 na4 qa4, .slice pa5 na5 qa5, .slice pa6 na6 qa6, .slice pa7 na7 qa7, .slice pa8 na8 qa8, .slice pa9 na9 qa9, .slice pa10 na10 qa10, .slice pa11 na11 qa11⟩) 26)) ⟨.slice pa0 na0 qa0, .slice pa1 na1 qa1, .slice pa2 na2 qa2, .slice pa3 na3 qa3, .slice pa4 na4 qa4, .slice pa5 na5 qa5, .slice pa6 na6 qa6, .slice pa7 na7 qa7, .slice pa8 na8 qa8, .slice pa9 na9 qa9, .slice pa10 na10 qa10, .slice pa11 na11 qa11⟩ T) := htv.below hba1
  have HX1 : Hid (BoxT (w1.alloc (.cells (tabCells ⟨.slice pa0 na0 qa0, .slice pa1 na1 qa1, .slice pa2 na2 qa2, .slice pa3 na3 qa3, .slice pa4 na4 qa4, .slice pa5 na5 qa5, .slice pa6 na6 qa6, .slice pa7 na7 qa7, .slice pa8 na8 qa8, .slice pa9 na9 qa9, .slice pa10 na10 qa10, .slice pa11 na11 qa11⟩) 26)) w1.heap.size ⟨.slice pa0 na0 qa0, .slice pa1 na1 qa1, .slice pa2 na2 qa2, .slice pa3 na3 qa3, .slice pa4 na4 qa4, .slice pa5 na5 qa5, .slice pa6 na6 qa6, .slice pa7 na7 qa7, .slice pa8 na8 qa8, .slice pa9 na9 qa9, .slice pa10 na10 qa10, .slice pa11 na11 qa11⟩) := BoxT.new _ _ _
  have HB1 : Hid (Below w.heap.size w (w1.alloc (.cells (tabCells ⟨.slice pa0 na0 qa0, .slice pa1 na1 qa1, .slice pa2 na2 qa2, .slice pa3 na3 qa3, .slice pa4 na4 qa4, .slice pa5 na5 qa5, .slice pa6 na6 qa6, .slice pa7 na7 qa7, .slice pa8 na8 qa8, .slice pa9 na9 qa9, .slice pa10 na10 qa10, .slice pa11 na11 qa11⟩) 26))) := hb1.trans (hba1.mono hb1.size)
  have HM := Lib.hid hm
  have HCAP : Hid (CapOf ⟨.slice pa0 na0 qa0, .slice pa1 na1 qa1, .slice pa2 na2 qa2, .slice pa3 na3 qa3, .slice pa4 na4 qa4, .slice pa5 na5 qa5, .slice pa6 na6 qa6, .slice pa7 na7 qa7, .slice pa8 na8 qa8, .slice pa9 na9 qa9, .slice pa10 na10 qa10, .slice pa11 na11 qa11⟩) := hcap1
  clear htv hm hcap1 hb1 hba1
  simp only [tabCells] at HT1 HX1 HB1
  go_wp2_with fail
  generalize (w1.alloc (.cells #[.slice pa0 na0 qa0, .slice pa1 na1 qa1, .slice pa2 na2 qa2, .slice pa3 na3 qa3, .slice pa4 na4 qa4, .slice pa5 na5 qa5, .slice pa6 na6 qa6, .slice pa7 na7 qa7, .slice pa8 na8 qa8, .slice pa9 na9 qa9, .slice pa10 na10 qa10, .slice pa11 na11 qa11] 26)) = W at HT1 HX1 HB1 ⊢
  generalize w1.heap.size = g at HX1 ⊢
  generalize (⟨.slice pa0 na0 qa0, .slice pa1 na1 qa1, .slice pa2 na2 qa2, .slice pa3 na3 qa3, .slice pa4 na4 qa4, .slice pa5 na5 qa5, .slice pa6 na6 qa6, .slice pa7 na7 qa7, .slice pa8 na8 qa8, .slice pa9 na9 qa9, .slice pa10 na10 qa10, .slice pa11 na11 qa11⟩ : TV) = x at HT1 HX1 HCAP
  have HE : Hid (LEnv w g x T W) := ⟨HT1.out, HX1.out, HB1.out⟩
  clear HT1 HX1 HB1
  obtain ⟨xa, hXa⟩ : ∃ m, Hid (wordF zs1 = m) := ⟨_, rfl⟩
  have hna : xa.length ≤ 6 := by have := (wordF_len zs1).2; rwa [hXa.out] at this
  have HSa : Hid (xa.all scaB = true) := by unfold Hid; rw [← hXa.out]; exact wordF_sca zs1
  refine (kwordsN_at p1 zs1.length cap1 zs1 xa _ (HI1.out.below HE.out.bel) (Lib.hid rfl) HL1.out hXa).mono ?_
  rintro e wa ⟨va, rfl, hi, hb⟩
  obtain ⟨pa, ca, rfl, hia⟩ := hi.inn
  replace HE := Lib.hid (HE.out.step hb)
  have Ha := Lib.hid hia
  clear hi hb hia hXa
  go_wp2_with fail
  refine (points_any p2 cap2 zs2 _ (HI2.out.below HE.out.bel) HL2.out).mono ?_
  rintro e wb ⟨xb, vb, rfl, hnb, hsb, hi, hb⟩
  obtain ⟨pb, cb, rfl, hib⟩ := hi.inn
  replace HE := Lib.hid (HE.out.step hb)
  replace Ha := Lib.hid (Ha.out.below hb)
  have Hb := Lib.hid hib
  have HSb := Lib.hid hsb
  clear hi hb hib hsb
  obtain ⟨Va, hVa⟩ : ∃ V, Hid (valR T xa = V) := ⟨_, rfl⟩
  have hv1a := fun W (h1 : TabV W x T) h2 h3 => vchk_at x T pa ca xa Va W h1 h2 h3 (by omega) hVa
  have hv2a := fun W (h1 : TabV W x T) h3 => rchk_at x T pa ca xa Va W h1 HCAP.out h3 (by omega) hVa
  have na : (Va == Va) = true := by simp
  obtain ⟨Vb, hVb⟩ : ∃ V, Hid (valR T xb = V) := ⟨_, rfl⟩
  have hv1b := fun W (h1 : TabV W x T) h2 h3 => vchk_at x T pb cb xb Vb W h1 h2 h3 (by omega) hVb
  have hv2b := fun W (h1 : TabV W x T) h3 => rchk_at x T pb cb xb Vb W h1 HCAP.out h3 (by omega) hVb
  have nb : (Vb == Vb) = true := by simp
  obtain ⟨Vc, hVc⟩ : ∃ V, Hid (valR T zs3 = V) := ⟨_, rfl⟩
  have hv1c := fun W (h1 : TabV W x T) h2 h3 => vchk_at x T p3 cap3 zs3 Vc W h1 h2 h3 (HL3.out) hVc
  have hv2c := fun W (h1 : TabV W x T) h3 => rchk_at x T p3 cap3 zs3 Vc W h1 HCAP.out h3 (HL3.out) hVc
  have nc : (Vc == Vc) = true := by simp
  obtain ⟨na, hna3⟩ : ∃ n, xa.length = n := ⟨_, rfl⟩
  obtain ⟨nb, hnb3⟩ : ∃ n, xb.length = n := ⟨_, rfl⟩
  obtain ⟨nc, hnc3⟩ : ∃ n, zs3.length = n := ⟨_, rfl⟩
  have hlc := HL3.out
  rw [hna3] at hv1a hv2a hna
  rw [hnb3] at hv1b hv2b hnb
  rw [hnc3] at hv1c hv2c hlc
  rw [hna3, hnb3, hnc3]
  obtain ⟨Bb, hBb⟩ : ∃ B, Hid (hypB xb = B) := ⟨_, rfl⟩
  obtain ⟨Bc, hBc⟩ : ∃ B, Hid (hypB zs3 = B) := ⟨_, rfl⟩
  have nbb : (Bb == Bb) = true := by simp
  have nbc : (Bc == Bc) = true := by simp
  have hh1b := fun W h1 => vhyp_at pb nb cb xb Bb W h1 (Lib.hid hnb3) (by omega) hBb
  have hh2b := fun W h1 => rhyph_at pb nb cb xb Bb W h1 (Lib.hid hnb3) (by omega) hBb
  have hh1c := fun W h1 => vhyp_at p3 nc cap3 zs3 Bc W h1 (Lib.hid hnc3) (by omega) hBc
  have hh2c := fun W h1 => rhyph_at p3 nc cap3 zs3 Bc W h1 (Lib.hid hnc3) (by omega) hBc
  have HV1a := Lib.hid hv1a
  have HV2a := Lib.hid hv2a
  have HV1b := Lib.hid hv1b
  have HV2b := Lib.hid hv2b
  have HV1c := Lib.hid hv1c
  have HV2c := Lib.hid hv2c
  have HH1b := Lib.hid hh1b
  have HH2b := Lib.hid hh2b
  have HH1c := Lib.hid hh1c
  have HH2c := Lib.hid hh2c
  clear hv1a hv2a hv1b hv2b hv1c hv2c hna3 hnb3 hnc3 hlc hna hnb hh1b hh2b hh1c hh2c hVa hVb hVc hBb hBc
  replace HE : Hid (OneV w g x T pa xa pb xb wb) := ⟨HE.out, Ha.out, Hb.out⟩
  clear Ha Hb
  go_upto_region 3 with (fail)
  have e0 := HE.out.step (drew_one wb)
  have HE0 := Lib.hid e0
  clear e0
  obtain ⟨⟨k0, k1, k2, k3, k4, k5⟩, ⟨k6, k7, k8, k9, k10, k11⟩⟩ := HE.out.l.box.load
  go_region_held3 (boxF g x)
    (first
      | exact HE0.out.l.box.flat
      | exact (HE0.out.step hb3).l.box.flat
      | exact ((HE0.out.step hb3).step hb4).l.box.flat
      | exact (((HE0.out.step hb3).step hb4).step hb5).l.box.flat
      | exact ((((HE0.out.step hb3).step hb4).step hb5).step hb6).l.box.flat
      | exact (((((HE0.out.step hb3).step hb4).step hb5).step hb6).step hb7).l.box.flat
      | exact ((((((HE0.out.step hb3).step hb4).step hb5).step hb6).step hb7).step hb8).l.box.flat
      | exact (((((((HE0.out.step hb3).step hb4).step hb5).step hb6).step hb7).step hb8).step hb9).l.box.flat
      | exact ((((((((HE0.out.step hb3).step hb4).step hb5).step hb6).step hb7).step hb8).step hb9).step hb10).l.box.flat
      | exact (((((((((HE0.out.step hb3).step hb4).step hb5).step hb6).step hb7).step hb8).step hb9).step hb10).step hb11).l.box.flat
      | exact ((((((((((HE0.out.step hb3).step hb4).step hb5).step hb6).step hb7).step hb8).step hb9).step hb10).step hb11).step hb12).l.box.flat
      | exact (((((((((((HE0.out.step hb3).step hb4).step hb5).step hb6).step hb7).step hb8).step hb9).step hb10).step hb11).step hb12).step hb13).l.box.flat)
    (first
      | (go_at_call 12; (with_reducible refine (awake17_any _ (HR.out.below HE0.out.l.bel)).mono ?_); rintro e w3 ⟨rfl, hb3⟩)
      | (go_at_call 13; (with_reducible refine (HV1a.out _ (HE0.out.step hb3).l.tab (HR.out.below (HE0.out.step hb3).l.bel) (HE0.out.step hb3).a).mono ?_); rintro e w4 ⟨rfl, hb4⟩)
      | (go_at_call 14; (with_reducible refine (HV2a.out _ ((HE0.out.step hb3).step hb4).l.tab ((HE0.out.step hb3).step hb4).a).mono ?_); rintro e w5 ⟨rfl, hb5⟩)
      | (go_at_call 13; (with_reducible refine (HV1b.out _ (((HE0.out.step hb3).step hb4).step hb5).l.tab (HR.out.below (((HE0.out.step hb3).step hb4).step hb5).l.bel) (((HE0.out.step hb3).step hb4).step hb5).b).mono ?_); rintro e w6 ⟨rfl, hb6⟩)
      | (go_at_call 14; (with_reducible refine (HV2b.out _ ((((HE0.out.step hb3).step hb4).step hb5).step hb6).l.tab ((((HE0.out.step hb3).step hb4).step hb5).step hb6).b).mono ?_); rintro e w7 ⟨rfl, hb7⟩)
      | (go_at_call 13; (with_reducible refine (HV1c.out _ (((((HE0.out.step hb3).step hb4).step hb5).step hb6).step hb7).l.tab (HR.out.below (((((HE0.out.step hb3).step hb4).step hb5).step hb6).step hb7).l.bel) (HI3.out.below (((((HE0.out.step hb3).step hb4).step hb5).step hb6).step hb7).l.bel)).mono ?_); rintro e w8 ⟨rfl, hb8⟩)
      | (go_at_call 14; (with_reducible refine (HV2c.out _ ((((((HE0.out.step hb3).step hb4).step hb5).step hb6).step hb7).step hb8).l.tab (HI3.out.below ((((((HE0.out.step hb3).step hb4).step hb5).step hb6).step hb7).step hb8).l.bel)).mono ?_); rintro e w9 ⟨rfl, hb9⟩)
      | (go_at_call 15; (with_reducible refine (HH1c.out _ (HI3.out.below (((((((HE0.out.step hb3).step hb4).step hb5).step hb6).step hb7).step hb8).step hb9).l.bel)).mono ?_); rintro e w10 ⟨rfl, hb10⟩)
      | (go_at_call 16; (with_reducible refine (HH2c.out _ (HI3.out.below ((((((((HE0.out.step hb3).step hb4).step hb5).step hb6).step hb7).step hb8).step hb9).step hb10).l.bel)).mono ?_); rintro e w11 ⟨rfl, hb11⟩)
      | (go_at_call 15; (with_reducible refine (HH1b.out _ (((((((((HE0.out.step hb3).step hb4).step hb5).step hb6).step hb7).step hb8).step hb9).step hb10).step hb11).b).mono ?_); rintro e w12 ⟨rfl, hb12⟩)
      | (go_at_call 16; (with_reducible refine (HH2b.out _ ((((((((((HE0.out.step hb3).step hb4).step hb5).step hb6).step hb7).step hb8).step hb9).step hb10).step hb11).step hb12).b).mono ?_); rintro e w13 ⟨rfl, hb13⟩)
      | fail)
  all_goals
    have HBZ := Lib.hid ((((((((((((HE0.out.step hb3).step hb4).step hb5).step hb6).step hb7).step hb8).step hb9).step hb10).step hb11).step hb12).step hb13)).l.bel
    clear hb3 hb4 hb5 hb6 hb7 hb8 hb9 hb10 hb11 hb12 hb13
    go_wp2
    go_ret
    exact ⟨by simp, HBZ.out⟩

end Go.Proofs.YtopaojjodkoidaaGreatDoor
