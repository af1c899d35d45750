/-
  The walk of TableBack (genTB.py).
-/
import Derived.Test.YtmkaclfjekjabaaGreatDoorQEncA
import Derived.Test.YtmkaclfjekjabaaGreatDoorQDecE
import Derived.Test.YtmkaclfjekjabaaGreatDoorQDecP
import Derived.Test.YtmkaclfjekjabaaGreatDoorQSameT
set_option linter.unusedSimpArgs false
set_option linter.unusedVariables false
namespace Go.Proofs.YtmkaclfjekjabaaGreatDoor
open Go Go.RowKit
set_option linter.unusedVariables false

set_option maxRecDepth 100000 in
set_option maxHeartbeats 8000000 in
theorem tableBack_walk (p : Option Addr) (cap : Nat) (zs : List Int) (w : World) (hin : IntsIn w p zs) (hl : zs.length ≤ 17592186043904) (hr : Rsv w) :
    Calls Tryz.prog 7 #[.slice p zs.length cap] w (Gives (.bool true) w) := by
  have HI := Lib.hid hin
  have HL := Lib.hid hl
  have HR := Lib.hid hr
  clear hin hl hr
  go_enter Tryz.func7, Tryz.ntmps7
  go_wp2_with fail
  refine (tables_any p cap zs _ HI.out HL.out).mono ?_
  rintro e w1 ⟨⟨a0, a1, a2, a3, a4, a5, a6, a7, a8, a9, a10, a11⟩, T1, rfl, htv, hm, hcap1, hb1⟩
  obtain ⟨pa0, na0, qa0, hsl0⟩ : Slc a0 := htv.cat.slc
  subst hsl0
  obtain ⟨pa1, na1, qa1, hsl1⟩ : Slc a1 := htv.cls.slc
  subst hsl1
  obtain ⟨pa2, na2, qa2, hsl2⟩ : Slc a2 := htv.joi.slc
  subst hsl2
  obtain ⟨pa3, na3, qa3, hsl3⟩ : Slc a3 := htv.bid.slc
  subst hsl3
  obtain ⟨pa4, na4, qa4, hsl4⟩ : Slc a4 := htv.scr.slc
  subst hsl4
  obtain ⟨pa5, na5, qa5, hsl5⟩ : Slc a5 := htv.sta.slc
  subst hsl5
  obtain ⟨pa6, na6, qa6, hsl6⟩ : Slc a6 := htv.ign.slc
  subst hsl6
  obtain ⟨pa7, na7, qa7, hsl7⟩ : Slc a7 := htv.ext.slc
  subst hsl7
  obtain ⟨pa8, na8, qa8, hsl8⟩ : Slc a8 := htv.map.slc
  subst hsl8
  obtain ⟨pa9, na9, qa9, hsl9⟩ : Slc a9 := htv.dec.slc
  subst hsl9
  obtain ⟨pa10, na10, qa10, hsl10⟩ : Slc a10 := htv.exc.slc
  subst hsl10
  obtain ⟨pa11, na11, qa11, hsl11⟩ : Slc a11 := htv.pro.slc
  subst hsl11
  have hba1 : Below w1.heap.size w1 (w1.alloc (.cells (tabCells ⟨.slice pa0 na0 qa0, .slice pa1 na1 qa1, .slice pa2 na2 qa2, .slice pa3 na3 qa3, .slice pa4 na4 qa4, .slice pa5 na5 qa5, .slice pa6 na6 qa6, .slice pa7 na7 qa7, .slice pa8 na8 qa8, .slice pa9 na9 qa9, .slice pa10 na10 qa10, .slice pa11 na11 qa11⟩) 26)) := (Below.refl _ _).alloc (Nat.le_refl _) _
  have HT1 : Hid (TabV (w1.alloc (.cells (tabCells ⟨.slice pa0 na0 qa0, .slice pa1 na1 qa1, .slice pa2 na2 qa2, .slice pa3 na3 qa3, .slice pa4 na4 qa4, .slice pa5 na5 qa5, .slice pa6 na6 qa6, .slice pa7 na7 qa7, .slice pa8 na8 qa8, .slice pa9 na9 qa9, .slice pa10 na10 qa10, .slice pa11 na11 qa11⟩) 26)) ⟨.slice pa0 na0 qa0, .slice pa1 na1 qa1, .slice pa2 na2 qa2, .slice pa3 na3 qa3, .slice pa4 na4 qa4, .slice pa5 na5 qa5, .slice pa6 na6 qa6, .slice pa7 na7 qa7, .slice pa8 na8 qa8, .slice pa9 na9 qa9, .slice pa10 na10 qa10, .slice pa11 na11 qa11⟩ T1) := htv.below hba1
  have HX1 : Hid (BoxT (w1.alloc (.cells (tabCells ⟨.slice pa0 na0 qa0, .slice pa1 na1 qa1, .slice pa2 na2 qa2, .slice pa3 na3 qa3, .slice pa4 na4 qa4, .slice pa5 na5 qa5, .slice pa6 na6 qa6, .slice pa7 na7 qa7, .slice pa8 na8 qa8, .slice pa9 na9 qa9, .slice pa10 na10 qa10, .slice pa11 na11 qa11⟩) 26)) w1.heap.size ⟨.slice pa0 na0 qa0, .slice pa1 na1 qa1, .slice pa2 na2 qa2, .slice pa3 na3 qa3, .slice pa4 na4 qa4, .slice pa5 na5 qa5, .slice pa6 na6 qa6, .slice pa7 na7 qa7, .slice pa8 na8 qa8, .slice pa9 na9 qa9, .slice pa10 na10 qa10, .slice pa11 na11 qa11⟩) := BoxT.new _ _ _
  have HB1 : Hid (Below w.heap.size w (w1.alloc (.cells (tabCells ⟨.slice pa0 na0 qa0, .slice pa1 na1 qa1, .slice pa2 na2 qa2, .slice pa3 na3 qa3, .slice pa4 na4 qa4, .slice pa5 na5 qa5, .slice pa6 na6 qa6, .slice pa7 na7 qa7, .slice pa8 na8 qa8, .slice pa9 na9 qa9, .slice pa10 na10 qa10, .slice pa11 na11 qa11⟩) 26))) := hb1.trans (hba1.mono hb1.size)
  obtain ⟨X, hX, hXs⟩ := made_fits hm
  have HEX := Lib.hid hX
  have HDX := Lib.hid (dec_enc hm.check hX)
  clear htv hcap1 hb1 hba1 hX hm
  simp only [tabCells] at HT1 HX1 HB1
  obtain ⟨⟨k0, k1, k2, k3, k4, k5⟩, ⟨k6, k7, k8, k9, k10, k11⟩⟩ := HX1.out.load
  clear k0 k1 k2 k3 k4 k5 k6 k7 k8 k9 k10 k11
  go_wp2_with fail
  refine (encode_any ⟨.slice pa0 na0 qa0, .slice pa1 na1 qa1, .slice pa2 na2 qa2, .slice pa3 na3 qa3, .slice pa4 na4 qa4, .slice pa5 na5 qa5, .slice pa6 na6 qa6, .slice pa7 na7 qa7, .slice pa8 na8 qa8, .slice pa9 na9 qa9, .slice pa10 na10 qa10, .slice pa11 na11 qa11⟩ T1 X 0 _ HT1.out (HR.out.below HB1.out) HEX).mono ?_
  rintro e w2 ⟨rfl, hb2⟩
  replace HT1 := Lib.hid (HT1.out.below hb2)
  replace HX1 := Lib.hid (HX1.out.below hb2)
  replace HB1 := Lib.hid (HB1.out.trans (hb2.mono HB1.out.size))
  clear hb2
  go_wp2_with fail
  refine (decode_t X T1 0 _ (by unfold maxLen; omega) (HR.out.below HB1.out) HDX).mono ?_
  rintro e w3 ⟨⟨a0, a1, a2, a3, a4, a5, a6, a7, a8, a9, a10, a11⟩, rfl, htv, hb3⟩
  have htv3 := htv w3 (Keeps.refl _ _)
  obtain ⟨pb0, nb0, qb0, hsl0⟩ : Slc a0 := htv3.cat.slc
  subst hsl0
  obtain ⟨pb1, nb1, qb1, hsl1⟩ : Slc a1 := htv3.cls.slc
  subst hsl1
  obtain ⟨pb2, nb2, qb2, hsl2⟩ : Slc a2 := htv3.joi.slc
  subst hsl2
  obtain ⟨pb3, nb3, qb3, hsl3⟩ : Slc a3 := htv3.bid.slc
  subst hsl3
  obtain ⟨pb4, nb4, qb4, hsl4⟩ : Slc a4 := htv3.scr.slc
  subst hsl4
  obtain ⟨pb5, nb5, qb5, hsl5⟩ : Slc a5 := htv3.sta.slc
  subst hsl5
  obtain ⟨pb6, nb6, qb6, hsl6⟩ : Slc a6 := htv3.ign.slc
  subst hsl6
  obtain ⟨pb7, nb7, qb7, hsl7⟩ : Slc a7 := htv3.ext.slc
  subst hsl7
  obtain ⟨pb8, nb8, qb8, hsl8⟩ : Slc a8 := htv3.map.slc
  subst hsl8
  obtain ⟨pb9, nb9, qb9, hsl9⟩ : Slc a9 := htv3.dec.slc
  subst hsl9
  obtain ⟨pb10, nb10, qb10, hsl10⟩ : Slc a10 := htv3.exc.slc
  subst hsl10
  obtain ⟨pb11, nb11, qb11, hsl11⟩ : Slc a11 := htv3.pro.slc
  subst hsl11
  have hba3 : Below w3.heap.size w3 (w3.alloc (.cells (tabCells ⟨.slice pb0 nb0 qb0, .slice pb1 nb1 qb1, .slice pb2 nb2 qb2, .slice pb3 nb3 qb3, .slice pb4 nb4 qb4, .slice pb5 nb5 qb5, .slice pb6 nb6 qb6, .slice pb7 nb7 qb7, .slice pb8 nb8 qb8, .slice pb9 nb9 qb9, .slice pb10 nb10 qb10, .slice pb11 nb11 qb11⟩) 26)) := (Below.refl _ _).alloc (Nat.le_refl _) _
  have HT3 : Hid (TabV (w3.alloc (.cells (tabCells ⟨.slice pb0 nb0 qb0, .slice pb1 nb1 qb1, .slice pb2 nb2 qb2, .slice pb3 nb3 qb3, .slice pb4 nb4 qb4, .slice pb5 nb5 qb5, .slice pb6 nb6 qb6, .slice pb7 nb7 qb7, .slice pb8 nb8 qb8, .slice pb9 nb9 qb9, .slice pb10 nb10 qb10, .slice pb11 nb11 qb11⟩) 26)) ⟨.slice pb0 nb0 qb0, .slice pb1 nb1 qb1, .slice pb2 nb2 qb2, .slice pb3 nb3 qb3, .slice pb4 nb4 qb4, .slice pb5 nb5 qb5, .slice pb6 nb6 qb6, .slice pb7 nb7 qb7, .slice pb8 nb8 qb8, .slice pb9 nb9 qb9, .slice pb10 nb10 qb10, .slice pb11 nb11 qb11⟩ T1) := htv3.below hba3
  have HX3 : Hid (BoxT (w3.alloc (.cells (tabCells ⟨.slice pb0 nb0 qb0, .slice pb1 nb1 qb1, .slice pb2 nb2 qb2, .slice pb3 nb3 qb3, .slice pb4 nb4 qb4, .slice pb5 nb5 qb5, .slice pb6 nb6 qb6, .slice pb7 nb7 qb7, .slice pb8 nb8 qb8, .slice pb9 nb9 qb9, .slice pb10 nb10 qb10, .slice pb11 nb11 qb11⟩) 26)) w3.heap.size ⟨.slice pb0 nb0 qb0, .slice pb1 nb1 qb1, .slice pb2 nb2 qb2, .slice pb3 nb3 qb3, .slice pb4 nb4 qb4, .slice pb5 nb5 qb5, .slice pb6 nb6 qb6, .slice pb7 nb7 qb7, .slice pb8 nb8 qb8, .slice pb9 nb9 qb9, .slice pb10 nb10 qb10, .slice pb11 nb11 qb11⟩) := BoxT.new _ _ _
  replace HT1 := Lib.hid ((HT1.out.below hb3).below hba3)
  replace HX1 := Lib.hid ((HX1.out.below hb3).below hba3)
  replace HB1 := Lib.hid ((HB1.out.trans (hb3.mono HB1.out.size)).trans (hba3.mono (Nat.le_trans HB1.out.size hb3.size)))
  clear htv htv3 hb3 hba3
  simp only [tabCells] at HT3 HX3 HT1 HX1 HB1
  simp only [TV.agg]
  go_wp2_with fail
  refine (awake_any _ (HR.out.below HB1.out)).mono ?_
  rintro e w4 ⟨rfl, hb4⟩
  replace HT1 := Lib.hid (HT1.out.below hb4)
  replace HX1 := Lib.hid (HX1.out.below hb4)
  replace HT3 := Lib.hid (HT3.out.below hb4)
  replace HX3 := Lib.hid (HX3.out.below hb4)
  replace HB1 := Lib.hid (HB1.out.trans (hb4.mono HB1.out.size))
  clear hb4
  generalize hg1 : w1.heap.size = g1 at HX1 ⊢
  generalize hg3 : w3.heap.size = g3 at HX3 ⊢
  obtain ⟨⟨k0, k1, k2, k3, k4, k5⟩, ⟨k6, k7, k8, k9, k10, k11⟩⟩ := HX1.out.load
  obtain ⟨⟨l0, l1, l2, l3, l4, l5⟩, ⟨l6, l7, l8, l9, l10, l11⟩⟩ := HX3.out.load
  simp only at k0 k1 k2 k3 k4 k5 k6 k7 k8 k9 k10 k11 l0 l1 l2 l3 l4 l5 l6 l7 l8 l9 l10 l11
  go_wp2_with fail
  refine (sameTables_eq ⟨.slice pa0 na0 qa0, .slice pa1 na1 qa1, .slice pa2 na2 qa2, .slice pa3 na3 qa3, .slice pa4 na4 qa4, .slice pa5 na5 qa5, .slice pa6 na6 qa6, .slice pa7 na7 qa7, .slice pa8 na8 qa8, .slice pa9 na9 qa9, .slice pa10 na10 qa10, .slice pa11 na11 qa11⟩ ⟨.slice pb0 nb0 qb0, .slice pb1 nb1 qb1, .slice pb2 nb2 qb2, .slice pb3 nb3 qb3, .slice pb4 nb4 qb4, .slice pb5 nb5 qb5, .slice pb6 nb6 qb6, .slice pb7 nb7 qb7, .slice pb8 nb8 qb8, .slice pb9 nb9 qb9, .slice pb10 nb10 qb10, .slice pb11 nb11 qb11⟩ T1 _ HT1.out HT3.out).mono ?_
  rintro e w5 ⟨rfl, hb5⟩
  replace HB1 := Lib.hid (HB1.out.trans (hb5.mono HB1.out.size))
  clear hb5 k0 k1 k2 k3 k4 k5 k6 k7 k8 k9 k10 k11 l0 l1 l2 l3 l4 l5 l6 l7 l8 l9 l10 l11
  go_wp2
  go_ret
  exact ⟨rfl, HB1.out⟩

end Go.Proofs.YtmkaclfjekjabaaGreatDoor
