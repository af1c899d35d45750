/-
  The walk of TableEncode (genTE.py).
-/
import Derived.Test.YtmkaclfjekjabaaGreatDoorQTableOtherWalk
import Derived.Test.YtmkaclfjekjabaaGreatDoorQEncA
set_option linter.unusedSimpArgs false
set_option linter.unusedVariables false
namespace Go.Proofs.YtmkaclfjekjabaaGreatDoor
open Go.RowKit
set_option linter.unusedVariables false

/-- What stands in memory: the raw tables, the made ones and the changed ones. -/
structure ES (w : World) (xr x1 x2 : TV) (Tr T1 T2 : Tb) (g1 g2 : Nat) (W : World) : Prop where
  tr : Env w xr Tr W
  t1 : TabV W x1 T1
  b1 : BoxT W g1 x1
  t2 : TabV W x2 T2
  b2 : BoxT W g2 x2

theorem ES.step {w : World} {xr x1 x2 : TV} {Tr T1 T2 : Tb} {g1 g2 : Nat} {W W' : World} (h : ES w xr x1 x2 Tr T1 T2 g1 g2 W) (hb : Below W.heap.size W W') : ES w xr x1 x2 Tr T1 T2 g1 g2 W' :=
  ⟨h.tr.step hb, h.t1.below hb, h.b1.below hb, h.t2.below hb, h.b2.below hb⟩

set_option maxRecDepth 100000 in
set_option maxHeartbeats 8000000 in
theorem tableEncode_walk (p : Option Addr) (cap : Nat) (zs : List Int) (how at' v : Int) (xr : TV) (Tr : Tb) (w : World) (hin : IntsIn w p zs) (hl : zs.length ≤ 17592186043904) (hxr : TabV w xr Tr) (hcr : CapOk xr) (hr : Rsv w) :
    Calls Tryz.prog 6 #[.slice p zs.length cap, .int .i64 how, .int .i64 at', .int .i64 v, xr.agg] w (Gives (.bool true) w) := by
  have HE0 := Lib.hid (Env.new hxr)
  have HI := Lib.hid (hin.below (Env.new hxr).bel)
  have HL := Lib.hid hl
  have HR := Lib.hid hr
  have HCR := Lib.hid hcr
  clear hin hl hr hxr hcr
  simp only [TV.agg]
  go_enter Tryz.func6, Tryz.ntmps6
  go_wp2_with fail
  refine (tables_any p cap zs _ HI.out HL.out).mono ?_
  rintro e w1 ⟨⟨a0, a1, a2, a3, a4, a5, a6, a7, a8, a9, a10, a11⟩, T1, rfl, htv, hm, hcap1, hb1⟩
  obtain ⟨pa0, na0, qa0, hsl0⟩ : Slc a0 := htv.cat.slc
  subst hsl0
  obtain ⟨pa1, na1, qa1, hsl1⟩ : Slc a1 := htv.cls.slc
  subst hsl1
  obtain ⟨pa2, na2, qa2, hsl2⟩ : Slc a2 := htv.joi.slc
  subst hsl2
  obtain ⟨pa3, na3, qa3, hsl3⟩ : Slc a3 := htv.bid.slc
  subst hsl3
  obtain ⟨pa4, na4, qa4, hsl4⟩ : Slc a4 := htv.scr.slc
  subst hsl4
  obtain ⟨pa5, na5, qa5, hsl5⟩ : Slc a5 := htv.sta.slc
  subst hsl5
  obtain ⟨pa6, na6, qa6, hsl6⟩ : Slc a6 := htv.ign.slc
  subst hsl6
  obtain ⟨pa7, na7, qa7, hsl7⟩ : Slc a7 := htv.ext.slc
  subst hsl7
  obtain ⟨pa8, na8, qa8, hsl8⟩ : Slc a8 := htv.map.slc
  subst hsl8
  obtain ⟨pa9, na9, qa9, hsl9⟩ : Slc a9 := htv.dec.slc
  subst hsl9
  obtain ⟨pa10, na10, qa10, hsl10⟩ : Slc a10 := htv.exc.slc
  subst hsl10
  obtain ⟨pa11, na11, qa11, hsl11⟩ : Slc a11 := htv.pro.slc
  subst hsl11
  have hba1 : Below w1.heap.size w1 (w1.alloc (.cells (tabCells ⟨.slice pa0 na0 qa0, .slice pa1 na1 qa1, .slice pa2 na2 qa2, .slice pa3 na3 qa3, .slice pa4 na4 qa4, .slice pa5 na5 qa5, .slice pa6 na6 qa6, .slice pa7 na7 qa7, .slice pa8 na8 qa8, .slice pa9 na9 qa9, .slice pa10 na10 qa10, .slice pa11 na11 qa11⟩) 26)) := (Below.refl _ _).alloc (Nat.le_refl _) _
  have HT1 : Hid (TabV (w1.alloc (.cells (tabCells ⟨.slice pa0 na0 qa0, .slice pa1 na1 qa1, .slice pa2 na2 qa2, .slice pa3 na3 qa3, .slice pa4 na4 qa4, .slice pa5 na5 qa5, .slice pa6 na6 qa6, .slice pa7 na7 qa7, .slice pa8 na8 qa8, .slice pa9 na9 qa9, .slice pa10 na10 qa10, .slice pa11 na11 qa11⟩) 26)) ⟨.slice pa0 na0 qa0, .slice pa1 na1 qa1, .slice pa2 na2 qa2, .slice pa3 na3 qa3, .slice pa4 na4 qa4, .slice pa5 na5 qa5, .slice pa6 na6 qa6, .slice pa7 na7 qa7, .slice pa8 na8 qa8, .slice pa9 na9 qa9, .slice pa10 na10 qa10, .slice pa11 na11 qa11⟩ T1) := htv.below hba1
  have HX1 : Hid (BoxT (w1.alloc (.cells (tabCells ⟨.slice pa0 na0 qa0, .slice pa1 na1 qa1, .slice pa2 na2 qa2, .slice pa3 na3 qa3, .slice pa4 na4 qa4, .slice pa5 na5 qa5, .slice pa6 na6 qa6, .slice pa7 na7 qa7, .slice pa8 na8 qa8, .slice pa9 na9 qa9, .slice pa10 na10 qa10, .slice pa11 na11 qa11⟩) 26)) w1.heap.size ⟨.slice pa0 na0 qa0, .slice pa1 na1 qa1, .slice pa2 na2 qa2, .slice pa3 na3 qa3, .slice pa4 na4 qa4, .slice pa5 na5 qa5, .slice pa6 na6 qa6, .slice pa7 na7 qa7, .slice pa8 na8 qa8, .slice pa9 na9 qa9, .slice pa10 na10 qa10, .slice pa11 na11 qa11⟩) := BoxT.new _ _ _
  have HE1 := Lib.hid ((HE0.out.step hb1).step hba1)
  have HM := Lib.hid hm
  have HF1 := Lib.hid (made_few hm)
  have HC1 : Hid (CapOk ⟨.slice pa0 na0 qa0, .slice pa1 na1 qa1, .slice pa2 na2 qa2, .slice pa3 na3 qa3, .slice pa4 na4 qa4, .slice pa5 na5 qa5, .slice pa6 na6 qa6, .slice pa7 na7 qa7, .slice pa8 na8 qa8, .slice pa9 na9 qa9, .slice pa10 na10 qa10, .slice pa11 na11 qa11⟩) := hcap1
  clear htv hm hcap1 hb1 hba1 HE0
  simp only [tabCells] at HT1 HX1 HE1
  go_wp2_with fail
  refine (other_any ⟨.slice pa0 na0 qa0, .slice pa1 na1 qa1, .slice pa2 na2 qa2, .slice pa3 na3 qa3, .slice pa4 na4 qa4, .slice pa5 na5 qa5, .slice pa6 na6 qa6, .slice pa7 na7 qa7, .slice pa8 na8 qa8, .slice pa9 na9 qa9, .slice pa10 na10 qa10, .slice pa11 na11 qa11⟩ T1 256 how at' v _ HT1.out HF1.out (by omega)).mono ?_
  rintro e w2 ⟨⟨a0, a1, a2, a3, a4, a5, a6, a7, a8, a9, a10, a11⟩, T2, rfl, htv, hf2, hcap2, hb2⟩
  obtain ⟨pb0, nb0, qb0, hsl0⟩ : Slc a0 := htv.cat.slc
  subst hsl0
  obtain ⟨pb1, nb1, qb1, hsl1⟩ : Slc a1 := htv.cls.slc
  subst hsl1
  obtain ⟨pb2, nb2, qb2, hsl2⟩ : Slc a2 := htv.joi.slc
  subst hsl2
  obtain ⟨pb3, nb3, qb3, hsl3⟩ : Slc a3 := htv.bid.slc
  subst hsl3
  obtain ⟨pb4, nb4, qb4, hsl4⟩ : Slc a4 := htv.scr.slc
  subst hsl4
  obtain ⟨pb5, nb5, qb5, hsl5⟩ : Slc a5 := htv.sta.slc
  subst hsl5
  obtain ⟨pb6, nb6, qb6, hsl6⟩ : Slc a6 := htv.ign.slc
  subst hsl6
  obtain ⟨pb7, nb7, qb7, hsl7⟩ : Slc a7 := htv.ext.slc
  subst hsl7
  obtain ⟨pb8, nb8, qb8, hsl8⟩ : Slc a8 := htv.map.slc
  subst hsl8
  obtain ⟨pb9, nb9, qb9, hsl9⟩ : Slc a9 := htv.dec.slc
  subst hsl9
  obtain ⟨pb10, nb10, qb10, hsl10⟩ : Slc a10 := htv.exc.slc
  subst hsl10
  obtain ⟨pb11, nb11, qb11, hsl11⟩ : Slc a11 := htv.pro.slc
  subst hsl11
  have hba2 : Below w2.heap.size w2 (w2.alloc (.cells (tabCells ⟨.slice pb0 nb0 qb0, .slice pb1 nb1 qb1, .slice pb2 nb2 qb2, .slice pb3 nb3 qb3, .slice pb4 nb4 qb4, .slice pb5 nb5 qb5, .slice pb6 nb6 qb6, .slice pb7 nb7 qb7, .slice pb8 nb8 qb8, .slice pb9 nb9 qb9, .slice pb10 nb10 qb10, .slice pb11 nb11 qb11⟩) 26)) := (Below.refl _ _).alloc (Nat.le_refl _) _
  have HT2 : Hid (TabV (w2.alloc (.cells (tabCells ⟨.slice pb0 nb0 qb0, .slice pb1 nb1 qb1, .slice pb2 nb2 qb2, .slice pb3 nb3 qb3, .slice pb4 nb4 qb4, .slice pb5 nb5 qb5, .slice pb6 nb6 qb6, .slice pb7 nb7 qb7, .slice pb8 nb8 qb8, .slice pb9 nb9 qb9, .slice pb10 nb10 qb10, .slice pb11 nb11 qb11⟩) 26)) ⟨.slice pb0 nb0 qb0, .slice pb1 nb1 qb1, .slice pb2 nb2 qb2, .slice pb3 nb3 qb3, .slice pb4 nb4 qb4, .slice pb5 nb5 qb5, .slice pb6 nb6 qb6, .slice pb7 nb7 qb7, .slice pb8 nb8 qb8, .slice pb9 nb9 qb9, .slice pb10 nb10 qb10, .slice pb11 nb11 qb11⟩ T2) := htv.below hba2
  have HX2 : Hid (BoxT (w2.alloc (.cells (tabCells ⟨.slice pb0 nb0 qb0, .slice pb1 nb1 qb1, .slice pb2 nb2 qb2, .slice pb3 nb3 qb3, .slice pb4 nb4 qb4, .slice pb5 nb5 qb5, .slice pb6 nb6 qb6, .slice pb7 nb7 qb7, .slice pb8 nb8 qb8, .slice pb9 nb9 qb9, .slice pb10 nb10 qb10, .slice pb11 nb11 qb11⟩) 26)) w2.heap.size ⟨.slice pb0 nb0 qb0, .slice pb1 nb1 qb1, .slice pb2 nb2 qb2, .slice pb3 nb3 qb3, .slice pb4 nb4 qb4, .slice pb5 nb5 qb5, .slice pb6 nb6 qb6, .slice pb7 nb7 qb7, .slice pb8 nb8 qb8, .slice pb9 nb9 qb9, .slice pb10 nb10 qb10, .slice pb11 nb11 qb11⟩) := BoxT.new _ _ _
  have HE2 := Lib.hid ((HE1.out.step hb2).step hba2)
  have HT12 := Lib.hid ((HT1.out.below hb2).below hba2)
  have HX12 := Lib.hid ((HX1.out.below hb2).below hba2)
  have HC2 : Hid (CapOk ⟨.slice pb0 nb0 qb0, .slice pb1 nb1 qb1, .slice pb2 nb2 qb2, .slice pb3 nb3 qb3, .slice pb4 nb4 qb4, .slice pb5 nb5 qb5, .slice pb6 nb6 qb6, .slice pb7 nb7 qb7, .slice pb8 nb8 qb8, .slice pb9 nb9 qb9, .slice pb10 nb10 qb10, .slice pb11 nb11 qb11⟩) := hcap2 HC1.out
  clear htv hf2 hcap2 hb2 hba2 HF1 HT1 HX1 HE1
  simp only [tabCells] at HT2 HX2 HE2 HT12 HX12
  go_upto_region 3 with (fail)
  generalize ((w2.alloc (.cells #[.slice pb0 nb0 qb0, .slice pb1 nb1 qb1, .slice pb2 nb2 qb2, .slice pb3 nb3 qb3, .slice pb4 nb4 qb4, .slice pb5 nb5 qb5, .slice pb6 nb6 qb6, .slice pb7 nb7 qb7, .slice pb8 nb8 qb8, .slice pb9 nb9 qb9, .slice pb10 nb10 qb10, .slice pb11 nb11 qb11] 26))) = W at HT2 HX2 HE2 HT12 HX12 ⊢
  generalize hg1 : w1.heap.size = g1 at HX12 ⊢
  generalize hg2 : w2.heap.size = g2 at HX2 ⊢
  generalize (⟨.slice pa0 na0 qa0, .slice pa1 na1 qa1, .slice pa2 na2 qa2, .slice pa3 na3 qa3, .slice pa4 na4 qa4, .slice pa5 na5 qa5, .slice pa6 na6 qa6, .slice pa7 na7 qa7, .slice pa8 na8 qa8, .slice pa9 na9 qa9, .slice pa10 na10 qa10, .slice pa11 na11 qa11⟩ : TV) = x1 at HT12 HX12 HC1
  generalize (⟨.slice pb0 nb0 qb0, .slice pb1 nb1 qb1, .slice pb2 nb2 qb2, .slice pb3 nb3 qb3, .slice pb4 nb4 qb4, .slice pb5 nb5 qb5, .slice pb6 nb6 qb6, .slice pb7 nb7 qb7, .slice pb8 nb8 qb8, .slice pb9 nb9 qb9, .slice pb10 nb10 qb10, .slice pb11 nb11 qb11⟩ : TV) = x2 at HT2 HX2 HC2
  clear hg1 hg2
  have HS0 : Hid (ES w xr x1 x2 Tr T1 T2 g1 g2 W) := ⟨HE2.out, HT12.out, HX12.out, HT2.out, HX2.out⟩
  clear HT12 HX12 HT2 HX2 HE2
  obtain ⟨X1, e1, hX1⟩ : ∃ X e, Hid (encT T1 = (X, e)) := ⟨_, _, rfl⟩
  obtain ⟨X2, e2, hX2⟩ : ∃ X e, Hid (encT T2 = (X, e)) := ⟨_, _, rfl⟩
  obtain ⟨X3, e3, hX3⟩ : ∃ X e, Hid (encT Tr = (X, e)) := ⟨_, _, rfl⟩
  obtain ⟨⟨k0, k1, k2, k3, k4, k5⟩, ⟨k6, k7, k8, k9, k10, k11⟩⟩ := HS0.out.b1
  go_wp2_with fail
  refine (encode_any x1 T1 X1 e1 _ HS0.out.t1 (HR.out.below HS0.out.tr.bel) hX1).mono ?_
  rintro e u0 ⟨rfl, hb⟩
  replace HS0 := Lib.hid (HS0.out.step hb)
  clear hb k0 k1 k2 k3 k4 k5 k6 k7 k8 k9 k10 k11
  obtain ⟨⟨k0, k1, k2, k3, k4, k5⟩, ⟨k6, k7, k8, k9, k10, k11⟩⟩ := HS0.out.b1
  go_wp2_with fail
  refine (rencode_any x1 T1 X1 e1 _ HS0.out.t1 HC1.out hX1).mono ?_
  rintro e u1 ⟨rfl, hb⟩
  replace HS0 := Lib.hid (HS0.out.step hb)
  clear hb k0 k1 k2 k3 k4 k5 k6 k7 k8 k9 k10 k11
  obtain ⟨⟨k0, k1, k2, k3, k4, k5⟩, ⟨k6, k7, k8, k9, k10, k11⟩⟩ := HS0.out.b2
  go_wp2_with fail
  refine (encode_any x2 T2 X2 e2 _ HS0.out.t2 (HR.out.below HS0.out.tr.bel) hX2).mono ?_
  rintro e u2 ⟨rfl, hb⟩
  replace HS0 := Lib.hid (HS0.out.step hb)
  clear hb k0 k1 k2 k3 k4 k5 k6 k7 k8 k9 k10 k11
  obtain ⟨⟨k0, k1, k2, k3, k4, k5⟩, ⟨k6, k7, k8, k9, k10, k11⟩⟩ := HS0.out.b2
  go_wp2_with fail
  refine (rencode_any x2 T2 X2 e2 _ HS0.out.t2 HC2.out hX2).mono ?_
  rintro e u3 ⟨rfl, hb⟩
  replace HS0 := Lib.hid (HS0.out.step hb)
  clear hb k0 k1 k2 k3 k4 k5 k6 k7 k8 k9 k10 k11
  obtain ⟨⟨k0, k1, k2, k3, k4, k5⟩, ⟨k6, k7, k8, k9, k10, k11⟩⟩ := HS0.out.tr.box
  go_wp2_with fail
  refine (encode_any xr Tr X3 e3 _ HS0.out.tr.tab (HR.out.below HS0.out.tr.bel) hX3).mono ?_
  rintro e u4 ⟨rfl, hb⟩
  replace HS0 := Lib.hid (HS0.out.step hb)
  clear hb k0 k1 k2 k3 k4 k5 k6 k7 k8 k9 k10 k11
  obtain ⟨⟨k0, k1, k2, k3, k4, k5⟩, ⟨k6, k7, k8, k9, k10, k11⟩⟩ := HS0.out.tr.box
  go_wp2_with fail
  refine (rencode_any xr Tr X3 e3 _ HS0.out.tr.tab HCR.out hX3).mono ?_
  rintro e u5 ⟨rfl, hb⟩
  replace HS0 := Lib.hid (HS0.out.step hb)
  clear hb k0 k1 k2 k3 k4 k5 k6 k7 k8 k9 k10 k11
  go_wp2_with fail
  refine (awake_any _ (HR.out.below HS0.out.tr.bel)).mono ?_
  rintro e u9 ⟨rfl, hb⟩
  replace HS0 := Lib.hid (HS0.out.step hb)
  clear hb
  go_wp2
  go_ret
  exact ⟨by simp, HS0.out.tr.bel⟩

end Go.Proofs.YtmkaclfjekjabaaGreatDoor
