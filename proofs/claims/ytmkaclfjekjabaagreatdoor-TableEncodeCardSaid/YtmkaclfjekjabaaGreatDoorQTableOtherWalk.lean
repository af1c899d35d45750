/-
  The walk of TableOther (genTO.py).
-/
import Derived.Test.YtmkaclfjekjabaaGreatDoorQOther
import Derived.Test.YtmkaclfjekjabaaGreatDoorQTabRO
import Derived.Test.YtmkaclfjekjabaaGreatDoorPkF
set_option linter.unusedSimpArgs false
set_option linter.unusedVariables false
namespace Go.Proofs.YtmkaclfjekjabaaGreatDoor
open Go.RowKit
set_option linter.unusedVariables false

theorem made_few {T : Tb} (h : Made T) : Few 256 T := by
  have h0 := h.check
  apply few_of_r1
  unfold checkT at h0
  cases h1 : r1 T with
  | true => rfl
  | false => rw [h1] at h0; simp at h0

def CapOk (x : TV) : Prop := ∀ p n c, x.a9 = .slice p n c → n ≤ c

theorem box_at {w w' : World} (x : TV) (t : TypeId) (hb : Below (w.alloc (.cells (tabCells x) t)).heap.size (w.alloc (.cells (tabCells x) t)) w') : BoxT w' w.heap.size x := (BoxT.new w x t).below hb

set_option maxRecDepth 100000 in
set_option maxHeartbeats 8000000 in
theorem tableOther_walk (p : Option Addr) (cap : Nat) (zs : List Int) (how at' v how2 at2 v2 : Int) (w : World) (hin : IntsIn w p zs) (hl : zs.length ≤ 17592186043904) (hr : Rsv w) :
    Calls Tryz.prog 3 #[.slice p zs.length cap, .int .i64 how, .int .i64 at', .int .i64 v, .int .i64 how2, .int .i64 at2, .int .i64 v2] w (Gives (.bool true) w) := by
  have HI := Lib.hid hin
  have HL := Lib.hid hl
  have HR := Lib.hid hr
  clear hin hl hr
  go_enter Tryz.func3, Tryz.ntmps3
  go_wp2_with fail
  refine (tables_any p cap zs _ HI.out HL.out).mono ?_
  rintro e w1 ⟨⟨a0, a1, a2, a3, a4, a5, a6, a7, a8, a9, a10, a11⟩, T1, rfl, htv, hm, hcap1, hb1⟩
  obtain ⟨pa0, na0, qa0, hsl0⟩ : Slc a0 := htv.cat.slc
  subst hsl0
  obtain ⟨pa1, na1, qa1, hsl1⟩ : Slc a1 := htv.cls.slc
  subst hsl1
  obtain ⟨pa2, na2, qa2, hsl2⟩ : Slc a2 := htv.joi.slc
  subst hsl2
  obtain ⟨pa3, na3, qa3, hsl3⟩ : Slc a3 := htv.bid.slc
  subst hsl3
  obtain ⟨pa4, na4, qa4, hsl4⟩ : Slc a4 := htv.scr.slc
  subst hsl4
  obtain ⟨pa5, na5, qa5, hsl5⟩ : Slc a5 := htv.sta.slc
  subst hsl5
  obtain ⟨pa6, na6, qa6, hsl6⟩ : Slc a6 := htv.ign.slc
  subst hsl6
  obtain ⟨pa7, na7, qa7, hsl7⟩ : Slc a7 := htv.ext.slc
  subst hsl7
  obtain ⟨pa8, na8, qa8, hsl8⟩ : Slc a8 := htv.map.slc
  subst hsl8
  obtain ⟨pa9, na9, qa9, hsl9⟩ : Slc a9 := htv.dec.slc
  subst hsl9
  obtain ⟨pa10, na10, qa10, hsl10⟩ : Slc a10 := htv.exc.slc
  subst hsl10
  obtain ⟨pa11, na11, qa11, hsl11⟩ : Slc a11 := htv.pro.slc
  subst hsl11
  have hba1 : Below w1.heap.size w1 (w1.alloc (.cells (tabCells ⟨.slice pa0 na0 qa0, .slice pa1 na1 qa1, .slice pa2 na2 qa2, .slice pa3 na3 qa3, .slice pa4 na4 qa4, .slice pa5 na5 qa5, .slice pa6 na6 qa6, .slice pa7 na7 qa7, .slice pa8 na8 qa8, .slice pa9 na9 qa9, .slice pa10 na10 qa10, .slice pa11 na11 qa11⟩) 26)) := (Below.refl _ _).alloc (Nat.le_refl _) _
  have HT1 : Hid (TabV (w1.alloc (.cells (tabCells ⟨.slice pa0 na0 qa0, .slice pa1 na1 qa1, .slice pa2 na2 qa2, .slice pa3 na3 qa3, .slice pa4 na4 qa4, .slice pa5 na5 qa5, .slice pa6 na6 qa6, .slice pa7 na7 qa7, .slice pa8 na8 qa8, .slice pa9 na9 qa9, .slice pa10 na10 qa10, .slice pa11 na11 qa11⟩) 26)) ⟨.slice pa0 na0 qa0, .slice pa1 na1 qa1, .slice pa2 na2 qa2, .slice pa3 na3 qa3, .slice pa4 na4 qa4, .slice pa5 na5 qa5, .slice pa6 na6 qa6, .slice pa7 na7 qa7, .slice pa8 na8 qa8, .slice pa9 na9 qa9, .slice pa10 na10 qa10, .slice pa11 na11 qa11⟩ T1) := htv.below hba1
  have HX1 : Hid (BoxT (w1.alloc (.cells (tabCells ⟨.slice pa0 na0 qa0, .slice pa1 na1 qa1, .slice pa2 na2 qa2, .slice pa3 na3 qa3, .slice pa4 na4 qa4, .slice pa5 na5 qa5, .slice pa6 na6 qa6, .slice pa7 na7 qa7, .slice pa8 na8 qa8, .slice pa9 na9 qa9, .slice pa10 na10 qa10, .slice pa11 na11 qa11⟩) 26)) w1.heap.size ⟨.slice pa0 na0 qa0, .slice pa1 na1 qa1, .slice pa2 na2 qa2, .slice pa3 na3 qa3, .slice pa4 na4 qa4, .slice pa5 na5 qa5, .slice pa6 na6 qa6, .slice pa7 na7 qa7, .slice pa8 na8 qa8, .slice pa9 na9 qa9, .slice pa10 na10 qa10, .slice pa11 na11 qa11⟩) := BoxT.new _ _ _
  have HB1 : Hid (Below w.heap.size w (w1.alloc (.cells (tabCells ⟨.slice pa0 na0 qa0, .slice pa1 na1 qa1, .slice pa2 na2 qa2, .slice pa3 na3 qa3, .slice pa4 na4 qa4, .slice pa5 na5 qa5, .slice pa6 na6 qa6, .slice pa7 na7 qa7, .slice pa8 na8 qa8, .slice pa9 na9 qa9, .slice pa10 na10 qa10, .slice pa11 na11 qa11⟩) 26))) := hb1.trans (hba1.mono hb1.size)
  have HM := Lib.hid hm
  have HF1 := Lib.hid (made_few hm)
  have HC1 : Hid (CapOk ⟨.slice pa0 na0 qa0, .slice pa1 na1 qa1, .slice pa2 na2 qa2, .slice pa3 na3 qa3, .slice pa4 na4 qa4, .slice pa5 na5 qa5, .slice pa6 na6 qa6, .slice pa7 na7 qa7, .slice pa8 na8 qa8, .slice pa9 na9 qa9, .slice pa10 na10 qa10, .slice pa11 na11 qa11⟩) := hcap1
  clear htv hm hcap1 hb1 hba1
  simp only [tabCells] at HT1 HX1 HB1
  go_wp2_with fail
  refine (other_any ⟨.slice pa0 na0 qa0, .slice pa1 na1 qa1, .slice pa2 na2 qa2, .slice pa3 na3 qa3, .slice pa4 na4 qa4, .slice pa5 na5 qa5, .slice pa6 na6 qa6, .slice pa7 na7 qa7, .slice pa8 na8 qa8, .slice pa9 na9 qa9, .slice pa10 na10 qa10, .slice pa11 na11 qa11⟩ T1 256 how at' v _ HT1.out HF1.out (by omega)).mono ?_
  rintro e w2 ⟨⟨a0, a1, a2, a3, a4, a5, a6, a7, a8, a9, a10, a11⟩, T2, rfl, htv, hf2, hcap2, hb2⟩
  obtain ⟨pb0, nb0, qb0, hsl0⟩ : Slc a0 := htv.cat.slc
  subst hsl0
  obtain ⟨pb1, nb1, qb1, hsl1⟩ : Slc a1 := htv.cls.slc
  subst hsl1
  obtain ⟨pb2, nb2, qb2, hsl2⟩ : Slc a2 := htv.joi.slc
  subst hsl2
  obtain ⟨pb3, nb3, qb3, hsl3⟩ : Slc a3 := htv.bid.slc
  subst hsl3
  obtain ⟨pb4, nb4, qb4, hsl4⟩ : Slc a4 := htv.scr.slc
  subst hsl4
  obtain ⟨pb5, nb5, qb5, hsl5⟩ : Slc a5 := htv.sta.slc
  subst hsl5
  obtain ⟨pb6, nb6, qb6, hsl6⟩ : Slc a6 := htv.ign.slc
  subst hsl6
  obtain ⟨pb7, nb7, qb7, hsl7⟩ : Slc a7 := htv.ext.slc
  subst hsl7
  obtain ⟨pb8, nb8, qb8, hsl8⟩ : Slc a8 := htv.map.slc
  subst hsl8
  obtain ⟨pb9, nb9, qb9, hsl9⟩ : Slc a9 := htv.dec.slc
  subst hsl9
  obtain ⟨pb10, nb10, qb10, hsl10⟩ : Slc a10 := htv.exc.slc
  subst hsl10
  obtain ⟨pb11, nb11, qb11, hsl11⟩ : Slc a11 := htv.pro.slc
  subst hsl11
  have hba2 : Below w2.heap.size w2 (w2.alloc (.cells (tabCells ⟨.slice pb0 nb0 qb0, .slice pb1 nb1 qb1, .slice pb2 nb2 qb2, .slice pb3 nb3 qb3, .slice pb4 nb4 qb4, .slice pb5 nb5 qb5, .slice pb6 nb6 qb6, .slice pb7 nb7 qb7, .slice pb8 nb8 qb8, .slice pb9 nb9 qb9, .slice pb10 nb10 qb10, .slice pb11 nb11 qb11⟩) 26)) := (Below.refl _ _).alloc (Nat.le_refl _) _
  have HT2 : Hid (TabV (w2.alloc (.cells (tabCells ⟨.slice pb0 nb0 qb0, .slice pb1 nb1 qb1, .slice pb2 nb2 qb2, .slice pb3 nb3 qb3, .slice pb4 nb4 qb4, .slice pb5 nb5 qb5, .slice pb6 nb6 qb6, .slice pb7 nb7 qb7, .slice pb8 nb8 qb8, .slice pb9 nb9 qb9, .slice pb10 nb10 qb10, .slice pb11 nb11 qb11⟩) 26)) ⟨.slice pb0 nb0 qb0, .slice pb1 nb1 qb1, .slice pb2 nb2 qb2, .slice pb3 nb3 qb3, .slice pb4 nb4 qb4, .slice pb5 nb5 qb5, .slice pb6 nb6 qb6, .slice pb7 nb7 qb7, .slice pb8 nb8 qb8, .slice pb9 nb9 qb9, .slice pb10 nb10 qb10, .slice pb11 nb11 qb11⟩ T2) := htv.below hba2
  have HX2 : Hid (BoxT (w2.alloc (.cells (tabCells ⟨.slice pb0 nb0 qb0, .slice pb1 nb1 qb1, .slice pb2 nb2 qb2, .slice pb3 nb3 qb3, .slice pb4 nb4 qb4, .slice pb5 nb5 qb5, .slice pb6 nb6 qb6, .slice pb7 nb7 qb7, .slice pb8 nb8 qb8, .slice pb9 nb9 qb9, .slice pb10 nb10 qb10, .slice pb11 nb11 qb11⟩) 26)) w2.heap.size ⟨.slice pb0 nb0 qb0, .slice pb1 nb1 qb1, .slice pb2 nb2 qb2, .slice pb3 nb3 qb3, .slice pb4 nb4 qb4, .slice pb5 nb5 qb5, .slice pb6 nb6 qb6, .slice pb7 nb7 qb7, .slice pb8 nb8 qb8, .slice pb9 nb9 qb9, .slice pb10 nb10 qb10, .slice pb11 nb11 qb11⟩) := BoxT.new _ _ _
  have HB2 : Hid (Below w.heap.size w (w2.alloc (.cells (tabCells ⟨.slice pb0 nb0 qb0, .slice pb1 nb1 qb1, .slice pb2 nb2 qb2, .slice pb3 nb3 qb3, .slice pb4 nb4 qb4, .slice pb5 nb5 qb5, .slice pb6 nb6 qb6, .slice pb7 nb7 qb7, .slice pb8 nb8 qb8, .slice pb9 nb9 qb9, .slice pb10 nb10 qb10, .slice pb11 nb11 qb11⟩) 26))) := (HB1.out.trans (hb2.mono HB1.out.size)).trans (hba2.mono (Nat.le_trans HB1.out.size hb2.size))
  have HT12 := Lib.hid ((HT1.out.below hb2).below hba2)
  have HX12 := Lib.hid ((HX1.out.below hb2).below hba2)
  have HF2 := Lib.hid hf2
  have HC2 : Hid (CapOk ⟨.slice pb0 nb0 qb0, .slice pb1 nb1 qb1, .slice pb2 nb2 qb2, .slice pb3 nb3 qb3, .slice pb4 nb4 qb4, .slice pb5 nb5 qb5, .slice pb6 nb6 qb6, .slice pb7 nb7 qb7, .slice pb8 nb8 qb8, .slice pb9 nb9 qb9, .slice pb10 nb10 qb10, .slice pb11 nb11 qb11⟩) := hcap2 HC1.out
  clear htv hf2 hcap2 hb2 hba2
  simp only [tabCells] at HT2 HX2 HB2 HT12 HX12
  go_wp2_with fail
  refine (other_any ⟨.slice pb0 nb0 qb0, .slice pb1 nb1 qb1, .slice pb2 nb2 qb2, .slice pb3 nb3 qb3, .slice pb4 nb4 qb4, .slice pb5 nb5 qb5, .slice pb6 nb6 qb6, .slice pb7 nb7 qb7, .slice pb8 nb8 qb8, .slice pb9 nb9 qb9, .slice pb10 nb10 qb10, .slice pb11 nb11 qb11⟩ T2 258 how2 at2 v2 _ HT2.out HF2.out (by omega)).mono ?_
  rintro e w3 ⟨⟨a0, a1, a2, a3, a4, a5, a6, a7, a8, a9, a10, a11⟩, T3, rfl, htv, hf3, hcap3, hb3⟩
  obtain ⟨pc0, nc0, qc0, hsl0⟩ : Slc a0 := htv.cat.slc
  subst hsl0
  obtain ⟨pc1, nc1, qc1, hsl1⟩ : Slc a1 := htv.cls.slc
  subst hsl1
  obtain ⟨pc2, nc2, qc2, hsl2⟩ : Slc a2 := htv.joi.slc
  subst hsl2
  obtain ⟨pc3, nc3, qc3, hsl3⟩ : Slc a3 := htv.bid.slc
  subst hsl3
  obtain ⟨pc4, nc4, qc4, hsl4⟩ : Slc a4 := htv.scr.slc
  subst hsl4
  obtain ⟨pc5, nc5, qc5, hsl5⟩ : Slc a5 := htv.sta.slc
  subst hsl5
  obtain ⟨pc6, nc6, qc6, hsl6⟩ : Slc a6 := htv.ign.slc
  subst hsl6
  obtain ⟨pc7, nc7, qc7, hsl7⟩ : Slc a7 := htv.ext.slc
  subst hsl7
  obtain ⟨pc8, nc8, qc8, hsl8⟩ : Slc a8 := htv.map.slc
  subst hsl8
  obtain ⟨pc9, nc9, qc9, hsl9⟩ : Slc a9 := htv.dec.slc
  subst hsl9
  obtain ⟨pc10, nc10, qc10, hsl10⟩ : Slc a10 := htv.exc.slc
  subst hsl10
  obtain ⟨pc11, nc11, qc11, hsl11⟩ : Slc a11 := htv.pro.slc
  subst hsl11
  have hba3 : Below w3.heap.size w3 (w3.alloc (.cells (tabCells ⟨.slice pc0 nc0 qc0, .slice pc1 nc1 qc1, .slice pc2 nc2 qc2, .slice pc3 nc3 qc3, .slice pc4 nc4 qc4, .slice pc5 nc5 qc5, .slice pc6 nc6 qc6, .slice pc7 nc7 qc7, .slice pc8 nc8 qc8, .slice pc9 nc9 qc9, .slice pc10 nc10 qc10, .slice pc11 nc11 qc11⟩) 26)) := (Below.refl _ _).alloc (Nat.le_refl _) _
  have HT3 : Hid (TabV (w3.alloc (.cells (tabCells ⟨.slice pc0 nc0 qc0, .slice pc1 nc1 qc1, .slice pc2 nc2 qc2, .slice pc3 nc3 qc3, .slice pc4 nc4 qc4, .slice pc5 nc5 qc5, .slice pc6 nc6 qc6, .slice pc7 nc7 qc7, .slice pc8 nc8 qc8, .slice pc9 nc9 qc9, .slice pc10 nc10 qc10, .slice pc11 nc11 qc11⟩) 26)) ⟨.slice pc0 nc0 qc0, .slice pc1 nc1 qc1, .slice pc2 nc2 qc2, .slice pc3 nc3 qc3, .slice pc4 nc4 qc4, .slice pc5 nc5 qc5, .slice pc6 nc6 qc6, .slice pc7 nc7 qc7, .slice pc8 nc8 qc8, .slice pc9 nc9 qc9, .slice pc10 nc10 qc10, .slice pc11 nc11 qc11⟩ T3) := htv.below hba3
  have HX3 : Hid (BoxT (w3.alloc (.cells (tabCells ⟨.slice pc0 nc0 qc0, .slice pc1 nc1 qc1, .slice pc2 nc2 qc2, .slice pc3 nc3 qc3, .slice pc4 nc4 qc4, .slice pc5 nc5 qc5, .slice pc6 nc6 qc6, .slice pc7 nc7 qc7, .slice pc8 nc8 qc8, .slice pc9 nc9 qc9, .slice pc10 nc10 qc10, .slice pc11 nc11 qc11⟩) 26)) w3.heap.size ⟨.slice pc0 nc0 qc0, .slice pc1 nc1 qc1, .slice pc2 nc2 qc2, .slice pc3 nc3 qc3, .slice pc4 nc4 qc4, .slice pc5 nc5 qc5, .slice pc6 nc6 qc6, .slice pc7 nc7 qc7, .slice pc8 nc8 qc8, .slice pc9 nc9 qc9, .slice pc10 nc10 qc10, .slice pc11 nc11 qc11⟩) := BoxT.new _ _ _
  have HB3 : Hid (Below w.heap.size w (w3.alloc (.cells (tabCells ⟨.slice pc0 nc0 qc0, .slice pc1 nc1 qc1, .slice pc2 nc2 qc2, .slice pc3 nc3 qc3, .slice pc4 nc4 qc4, .slice pc5 nc5 qc5, .slice pc6 nc6 qc6, .slice pc7 nc7 qc7, .slice pc8 nc8 qc8, .slice pc9 nc9 qc9, .slice pc10 nc10 qc10, .slice pc11 nc11 qc11⟩) 26))) := (HB2.out.trans (hb3.mono HB2.out.size)).trans (hba3.mono (Nat.le_trans HB2.out.size hb3.size))
  have HT13 := Lib.hid ((HT12.out.below hb3).below hba3)
  have HX13 := Lib.hid ((HX12.out.below hb3).below hba3)
  have HT23 := Lib.hid ((HT2.out.below hb3).below hba3)
  have HX23 := Lib.hid ((HX2.out.below hb3).below hba3)
  have HC3 : Hid (CapOk ⟨.slice pc0 nc0 qc0, .slice pc1 nc1 qc1, .slice pc2 nc2 qc2, .slice pc3 nc3 qc3, .slice pc4 nc4 qc4, .slice pc5 nc5 qc5, .slice pc6 nc6 qc6, .slice pc7 nc7 qc7, .slice pc8 nc8 qc8, .slice pc9 nc9 qc9, .slice pc10 nc10 qc10, .slice pc11 nc11 qc11⟩) := hcap3 HC2.out
  clear htv hf3 hcap3 hb3 hba3 HT1 HX1 HB1 HT12 HX12 HB2 HT2 HX2 HF1 HF2
  simp only [tabCells] at HT3 HX3 HB3 HT13 HX13 HT23 HX23
  go_upto_region 4 with (fail)
  generalize ((w3.alloc (.cells #[.slice pc0 nc0 qc0, .slice pc1 nc1 qc1, .slice pc2 nc2 qc2, .slice pc3 nc3 qc3, .slice pc4 nc4 qc4, .slice pc5 nc5 qc5, .slice pc6 nc6 qc6, .slice pc7 nc7 qc7, .slice pc8 nc8 qc8, .slice pc9 nc9 qc9, .slice pc10 nc10 qc10, .slice pc11 nc11 qc11] 26))) = W at HT3 HX3 HB3 HT13 HX13 HT23 HX23 ⊢
  generalize hg1 : w1.heap.size = g1 at HX13 ⊢
  generalize hg2 : w2.heap.size = g2 at HX23 ⊢
  generalize hg3 : w3.heap.size = g3 at HX3 ⊢
  generalize (⟨.slice pa0 na0 qa0, .slice pa1 na1 qa1, .slice pa2 na2 qa2, .slice pa3 na3 qa3, .slice pa4 na4 qa4, .slice pa5 na5 qa5, .slice pa6 na6 qa6, .slice pa7 na7 qa7, .slice pa8 na8 qa8, .slice pa9 na9 qa9, .slice pa10 na10 qa10, .slice pa11 na11 qa11⟩ : TV) = x1 at HT13 HX13 HC1
  generalize (⟨.slice pb0 nb0 qb0, .slice pb1 nb1 qb1, .slice pb2 nb2 qb2, .slice pb3 nb3 qb3, .slice pb4 nb4 qb4, .slice pb5 nb5 qb5, .slice pb6 nb6 qb6, .slice pb7 nb7 qb7, .slice pb8 nb8 qb8, .slice pb9 nb9 qb9, .slice pb10 nb10 qb10, .slice pb11 nb11 qb11⟩ : TV) = x2 at HT23 HX23 HC2
  generalize (⟨.slice pc0 nc0 qc0, .slice pc1 nc1 qc1, .slice pc2 nc2 qc2, .slice pc3 nc3 qc3, .slice pc4 nc4 qc4, .slice pc5 nc5 qc5, .slice pc6 nc6 qc6, .slice pc7 nc7 qc7, .slice pc8 nc8 qc8, .slice pc9 nc9 qc9, .slice pc10 nc10 qc10, .slice pc11 nc11 qc11⟩ : TV) = x3 at HT3 HX3 HC3
  clear hg1 hg2 hg3
  obtain ⟨⟨k0, k1, k2, k3, k4, k5⟩, ⟨k6, k7, k8, k9, k10, k11⟩⟩ := HX13.out.load
  have K1_0 := fun p => layB_cell k0 p
  have K1_1 := fun p => layB_cell k1 p
  have K1_2 := fun p => layB_cell k2 p
  have K1_3 := fun p => layB_cell k3 p
  have K1_4 := fun p => layB_cell k4 p
  have K1_5 := fun p => layB_cell k5 p
  have K1_6 := fun p => layB_cell k6 p
  have K1_7 := fun p => layB_cell k7 p
  have K1_8 := fun p => layB_cell k8 p
  have K1_9 := fun p => layB_cell k9 p
  have K1_10 := fun p => layB_cell k10 p
  have K1_11 := fun p => layB_cell k11 p
  clear k0 k1 k2 k3 k4 k5 k6 k7 k8 k9 k10 k11
  obtain ⟨⟨k0, k1, k2, k3, k4, k5⟩, ⟨k6, k7, k8, k9, k10, k11⟩⟩ := HX23.out.load
  have K2_0 := fun p => layB_cell k0 p
  have K2_1 := fun p => layB_cell k1 p
  have K2_2 := fun p => layB_cell k2 p
  have K2_3 := fun p => layB_cell k3 p
  have K2_4 := fun p => layB_cell k4 p
  have K2_5 := fun p => layB_cell k5 p
  have K2_6 := fun p => layB_cell k6 p
  have K2_7 := fun p => layB_cell k7 p
  have K2_8 := fun p => layB_cell k8 p
  have K2_9 := fun p => layB_cell k9 p
  have K2_10 := fun p => layB_cell k10 p
  have K2_11 := fun p => layB_cell k11 p
  clear k0 k1 k2 k3 k4 k5 k6 k7 k8 k9 k10 k11
  obtain ⟨⟨k0, k1, k2, k3, k4, k5⟩, ⟨k6, k7, k8, k9, k10, k11⟩⟩ := HX3.out.load
  have K3_0 := fun p => layB_cell k0 p
  have K3_1 := fun p => layB_cell k1 p
  have K3_2 := fun p => layB_cell k2 p
  have K3_3 := fun p => layB_cell k3 p
  have K3_4 := fun p => layB_cell k4 p
  have K3_5 := fun p => layB_cell k5 p
  have K3_6 := fun p => layB_cell k6 p
  have K3_7 := fun p => layB_cell k7 p
  have K3_8 := fun p => layB_cell k8 p
  have K3_9 := fun p => layB_cell k9 p
  have K3_10 := fun p => layB_cell k10 p
  have K3_11 := fun p => layB_cell k11 p
  clear k0 k1 k2 k3 k4 k5 k6 k7 k8 k9 k10 k11
  have HRW := Lib.hid (HR.out.below HB3.out)
  obtain ⟨V2, hV2⟩ : ∃ V, Hid (checkT T2 = V) := ⟨_, rfl⟩
  obtain ⟨V3, hV3⟩ : ∃ V, Hid (checkT T3 = V) := ⟨_, rfl⟩
  have hV1 : Hid (checkT T1 = 0) := HM.out.check
  have c1 := fun p => layB_call (w := W) (p := p) fun W2 hW2 => awake_any W2 (HRW.out.below hW2)
  have c2 := fun p => layB_call (w := W) (p := p) fun W2 hW2 => check_tab_at x1 T1 0 W2 (HT13.out.below hW2) (HRW.out.below hW2) hV1
  have c3 := fun p => layB_call (w := W) (p := p) fun W2 hW2 => check_tab_at x2 T2 V2 W2 (HT23.out.below hW2) (HRW.out.below hW2) hV2
  have c4 := fun p => layB_call (w := W) (p := p) fun W2 hW2 => rcheck_tab x2 T2 V2 W2 (HT23.out.below hW2) HC2.out hV2
  have c5 := fun p => layB_call (w := W) (p := p) fun W2 hW2 => check_tab_at x3 T3 V3 W2 (HT3.out.below hW2) (HRW.out.below hW2) hV3
  have c6 := fun p => layB_call (w := W) (p := p) fun W2 hW2 => rcheck_tab x3 T3 V3 W2 (HT3.out.below hW2) HC3.out hV3
  simp only [TV.agg] at c2 c3 c4 c5 c6
  have C1 := Lib.hid c1
  have C2 := Lib.hid c2
  have C3 := Lib.hid c3
  have C4 := Lib.hid c4
  have C5 := Lib.hid c5
  have C6 := Lib.hid c6
  clear c1 c2 c3 c4 c5 c6
  refine wp_region_layB (by kernel_rfl) (by kernel_rfl) ?_
  repeat (go_big_quiet_step (first
    | (go_at_call 12; with_reducible exact C1.out _)
    | (go_at_call 13; with_reducible exact C2.out _)
    | (go_at_call 13; with_reducible exact C3.out _)
    | (go_at_call 13; with_reducible exact C5.out _)
    | (go_at_call 14; with_reducible exact C4.out _)
    | (go_at_call 14; with_reducible exact C6.out _)))
  refine wpQuiet_nil ?_
  intro _ hw'
  obtain ⟨pq, hw''⟩ := hw'
  subst hw''
  have HEq := Lib.hid (HB3.out.trans ((layB_below W pq).mono HB3.out.size))
  generalize layB W pq = wq at HEq ⊢
  go_wp2
  go_ret
  exact ⟨by simp, HEq.out⟩

end Go.Proofs.YtmkaclfjekjabaaGreatDoor
