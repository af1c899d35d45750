/-
  The walk of StreamTwo (genSW.py).
-/
import Derived.Test.YtfmfifmmaihodaaGreatDoorSxPkZY
set_option linter.unusedSimpArgs false
set_option linter.unusedVariables false
namespace Go.Proofs.YtfmfifmmaihodaaGreatDoor
open Go.RowKit
set_option linter.unusedVariables false

set_option maxRecDepth 100000 in
set_option maxHeartbeats 8000000 in
theorem streamTwo_walk (p0 : Option Addr) (cap0 : Nat) (zs0 : List Int) (p1 : Option Addr) (cap1 : Nat) (zs1 : List Int) (p2 : Option Addr) (cap2 : Nat) (zs2 : List Int) (w : World) (hin0 : IntsIn w p0 zs0) (hl0 : zs0.length ≤ 17592186043904) (hin1 : IntsIn w p1 zs1) (hl1 : zs1.length ≤ 17592186043904) (hin2 : IntsIn w p2 zs2) (hl2 : zs2.length ≤ 17592186043904) (hr : Rsv w) :
    Calls Tryz.prog 8 #[.slice p0 zs0.length cap0, .slice p1 zs1.length cap1, .slice p2 zs2.length cap2] w (Gives (.bool true) w) := by
  have HI0 := Lib.hid hin0
  have HL0 := Lib.hid hl0
  have HI1 := Lib.hid hin1
  have HL1 := Lib.hid hl1
  have HI2 := Lib.hid hin2
  have HL2 := Lib.hid hl2
  have HR := Lib.hid hr
  clear hin0 hl0 hin1 hl1 hin2 hl2 hr
  go_enter Tryz.func8, Tryz.ntmps8
  go_wp2_with fail
  refine (tables9_any p0 cap0 zs0 _ HI0.out HL0.out).mono ?_
  rintro e w1 ⟨⟨a0, a1, a2, a3, a4, a5, a6, a7, a8, a9, a10, a11⟩, T, rfl, htp, hm, hcap1, hb1, hnf, hwm, hli⟩
  have htv := htp.tab
  obtain ⟨pa0, na0, qa0, hsl0⟩ : Slc a0 := htv.cat.slc
  subst hsl0
  obtain ⟨pa1, na1, qa1, hsl1⟩ : Slc a1 := htv.cls.slc
  subst hsl1
  obtain ⟨pa2, na2, qa2, hsl2⟩ : Slc a2 := htv.joi.slc
  subst hsl2
  obtain ⟨pa3, na3, qa3, hsl3⟩ : Slc a3 := htv.bid.slc
  subst hsl3
  obtain ⟨pa4, na4, qa4, hsl4⟩ : Slc a4 := htv.scr.slc
  subst hsl4
  obtain ⟨pa5, na5, qa5, hsl5⟩ : Slc a5 := htv.sta.slc
  subst hsl5
  obtain ⟨pa6, na6, qa6, hsl6⟩ : Slc a6 := htv.ign.slc
  subst hsl6
  obtain ⟨pa7, na7, qa7, hsl7⟩ : Slc a7 := htv.ext.slc
  subst hsl7
  obtain ⟨pa8, na8, qa8, hsl8⟩ : Slc a8 := htv.map.slc
  subst hsl8
  obtain ⟨pa9, na9, qa9, hsl9⟩ : Slc a9 := htv.dec.slc
  subst hsl9
  obtain ⟨pa10, na10, qa10, hsl10⟩ : Slc a10 := htv.exc.slc
  subst hsl10
  obtain ⟨pa11, na11, qa11, hsl11⟩ : Slc a11 := htv.pro.slc
  subst hsl11
  obtain ⟨nc, hnc⟩ : ∃ n, T.cls.length = n := ⟨_, rfl⟩
  obtain ⟨pc', cc', ec, hspc, _⟩ := htv.cls
  simp only at ec
  rw [hnc] at ec
  injection ec with ec1 ec2 ec3
  subst ec1 ec2 ec3
  have hcb : ∀ b off, pa1 = some ⟨b, off, none⟩ → w.heap.size ≤ b ∧ b < w1.heap.size := fun b off e => hli b off na1 qa1 (by rw [e])
  have hwm1 : ∀ b off, pa1 = some ⟨b, off, none⟩ → ∀ j, w1.frozen? ⟨b, j, none⟩ = false := fun b off e j => hwm b off na1 qa1 (by rw [e]) j
  have hba1 : Below w1.heap.size w1 (w1.alloc (.cells (tabCells ⟨.slice pa0 na0 qa0, .slice pa1 na1 qa1, .slice pa2 na2 qa2, .slice pa3 na3 qa3, .slice pa4 na4 qa4, .slice pa5 na5 qa5, .slice pa6 na6 qa6, .slice pa7 na7 qa7, .slice pa8 na8 qa8, .slice pa9 na9 qa9, .slice pa10 na10 qa10, .slice pa11 na11 qa11⟩) 26)) := (Below.refl _ _).alloc (Nat.le_refl _) _
  have HT1 : Hid (TabV (w1.alloc (.cells (tabCells ⟨.slice pa0 na0 qa0, .slice pa1 na1 qa1, .slice pa2 na2 qa2, .slice pa3 na3 qa3, .slice pa4 na4 qa4, .slice pa5 na5 qa5, .slice pa6 na6 qa6, .slice pa7 na7 qa7, .slice pa8 na8 qa8, .slice pa9 na9 qa9, .slice pa10 na10 qa10, .slice pa11 na11 qa11⟩) 26)) ⟨.slice pa0 na0 qa0, .slice pa1 na1 qa1, .slice pa2 na2 qa2, .slice pa3 na3 qa3, .slice pa4 na4 qa4, .slice pa5 na5 qa5, .slice pa6 na6 qa6, .slice pa7 na7 qa7, .slice pa8 na8 qa8, .slice pa9 na9 qa9, .slice pa10 na10 qa10, .slice pa11 na11 qa11⟩ T) := htv.below hba1
  have HX1 : Hid (BoxT (w1.alloc (.cells (tabCells ⟨.slice pa0 na0 qa0, .slice pa1 na1 qa1, .slice pa2 na2 qa2, .slice pa3 na3 qa3, .slice pa4 na4 qa4, .slice pa5 na5 qa5, .slice pa6 na6 qa6, .slice pa7 na7 qa7, .slice pa8 na8 qa8, .slice pa9 na9 qa9, .slice pa10 na10 qa10, .slice pa11 na11 qa11⟩) 26)) w1.heap.size ⟨.slice pa0 na0 qa0, .slice pa1 na1 qa1, .slice pa2 na2 qa2, .slice pa3 na3 qa3, .slice pa4 na4 qa4, .slice pa5 na5 qa5, .slice pa6 na6 qa6, .slice pa7 na7 qa7, .slice pa8 na8 qa8, .slice pa9 na9 qa9, .slice pa10 na10 qa10, .slice pa11 na11 qa11⟩) := BoxT.new _ _ _
  have HBX : Hid (BoxF (w1.alloc (.cells (tabCells ⟨.slice pa0 na0 qa0, .slice pa1 na1 qa1, .slice pa2 na2 qa2, .slice pa3 na3 qa3, .slice pa4 na4 qa4, .slice pa5 na5 qa5, .slice pa6 na6 qa6, .slice pa7 na7 qa7, .slice pa8 na8 qa8, .slice pa9 na9 qa9, .slice pa10 na10 qa10, .slice pa11 na11 qa11⟩) 26)) w1.heap.size (fOf ⟨.slice pa0 na0 qa0, .slice pa1 na1 qa1, .slice pa2 na2 qa2, .slice pa3 na3 qa3, .slice pa4 na4 qa4, .slice pa5 na5 qa5, .slice pa6 na6 qa6, .slice pa7 na7 qa7, .slice pa8 na8 qa8, .slice pa9 na9 qa9, .slice pa10 na10 qa10, .slice pa11 na11 qa11⟩)) := BoxF.tab _ _ _
  have HB1 : Hid (Below w.heap.size w (w1.alloc (.cells (tabCells ⟨.slice pa0 na0 qa0, .slice pa1 na1 qa1, .slice pa2 na2 qa2, .slice pa3 na3 qa3, .slice pa4 na4 qa4, .slice pa5 na5 qa5, .slice pa6 na6 qa6, .slice pa7 na7 qa7, .slice pa8 na8 qa8, .slice pa9 na9 qa9, .slice pa10 na10 qa10, .slice pa11 na11 qa11⟩) 26))) := hb1.trans (hba1.mono hb1.size)
  have HSP : Hid (SpIn (w1.alloc (.cells (tabCells ⟨.slice pa0 na0 qa0, .slice pa1 na1 qa1, .slice pa2 na2 qa2, .slice pa3 na3 qa3, .slice pa4 na4 qa4, .slice pa5 na5 qa5, .slice pa6 na6 qa6, .slice pa7 na7 qa7, .slice pa8 na8 qa8, .slice pa9 na9 qa9, .slice pa10 na10 qa10, .slice pa11 na11 qa11⟩) 26)) pa1 T.cls) := hspc.below hba1
  have HWM : Hid (∀ b off, pa1 = some ⟨b, off, none⟩ → ∀ j, World.frozen? (w1.alloc (.cells (tabCells ⟨.slice pa0 na0 qa0, .slice pa1 na1 qa1, .slice pa2 na2 qa2, .slice pa3 na3 qa3, .slice pa4 na4 qa4, .slice pa5 na5 qa5, .slice pa6 na6 qa6, .slice pa7 na7 qa7, .slice pa8 na8 qa8, .slice pa9 na9 qa9, .slice pa10 na10 qa10, .slice pa11 na11 qa11⟩) 26)) ⟨b, j, none⟩ = false) := fun b off e j => (hba1.frozen (p := ⟨b, j, none⟩) (hcb b off e).2).trans (hwm1 b off e j)
  have HGB : Hid (w.heap.size ≤ w1.heap.size ∧ w1.heap.size < (w1.alloc (.cells (tabCells ⟨.slice pa0 na0 qa0, .slice pa1 na1 qa1, .slice pa2 na2 qa2, .slice pa3 na3 qa3, .slice pa4 na4 qa4, .slice pa5 na5 qa5, .slice pa6 na6 qa6, .slice pa7 na7 qa7, .slice pa8 na8 qa8, .slice pa9 na9 qa9, .slice pa10 na10 qa10, .slice pa11 na11 qa11⟩) 26)).heap.size) := ⟨hb1.size, by simp⟩
  have HCB := Lib.hid hcb
  have HNF := Lib.hid hnf
  have HM := Lib.hid hm
  have HNC := Lib.hid hnc
  have HA1 : Hid (A1 ⟨.slice pa0 na0 qa0, .slice pa1 na1 qa1, .slice pa2 na2 qa2, .slice pa3 na3 qa3, .slice pa4 na4 qa4, .slice pa5 na5 qa5, .slice pa6 na6 qa6, .slice pa7 na7 qa7, .slice pa8 na8 qa8, .slice pa9 na9 qa9, .slice pa10 na10 qa10, .slice pa11 na11 qa11⟩ (.slice pa1 na1 qa1)) := rfl
  clear htv htp hm hcap1 hb1 hba1 hnf hwm hli hcb hwm1 hspc hnc
  simp only [tabCells] at HT1 HX1 HBX HB1 HSP HWM HGB
  go_upto_region 2 with (fail)
  generalize (w1.alloc (.cells #[.slice pa0 na0 qa0, .slice pa1 na1 qa1, .slice pa2 na2 qa2, .slice pa3 na3 qa3, .slice pa4 na4 qa4, .slice pa5 na5 qa5, .slice pa6 na6 qa6, .slice pa7 na7 qa7, .slice pa8 na8 qa8, .slice pa9 na9 qa9, .slice pa10 na10 qa10, .slice pa11 na11 qa11] 26)) = W at HT1 HX1 HBX HB1 HSP HWM HGB ⊢
  generalize w1.heap.size = g at HX1 HBX HCB HGB ⊢
  generalize (⟨.slice pa0 na0 qa0, .slice pa1 na1 qa1, .slice pa2 na2 qa2, .slice pa3 na3 qa3, .slice pa4 na4 qa4, .slice pa5 na5 qa5, .slice pa6 na6 qa6, .slice pa7 na7 qa7, .slice pa8 na8 qa8, .slice pa9 na9 qa9, .slice pa10 na10 qa10, .slice pa11 na11 qa11⟩ : TV) = x at HT1 HX1 HBX HA1
  have HE : Hid (LEnv w g x T W) := ⟨HT1.out, HX1.out, HB1.out⟩
  clear HT1 HX1 HB1
  have HV : Hid (checkT T = 0) := HM.out.check
  have HNE : Hid (newE T ((32 : Nat) : Int) = 0) := newE_mk HM.out.check (by omega) (by omega)
  obtain ⟨⟨k0, k1, k2, k3, k4, k5⟩, ⟨k6, k7, k8, k9, k10, k11⟩⟩ := HE.out.box.load
  go_wp2_with fail
  refine (new_at x T 32 _ HE.out.tab (HR.out.below HE.out.bel) HNE).mono ?_
  rintro e wa ⟨sa, ya, rfl, hsa, hz, hz2, hb⟩
  have HSA := Lib.hid hsa
  have HZA := Lib.hid (show W.heap.size ≤ sa ∧ wa.heap.size = sa + 1 ∧ Below W.heap.size W wa from ⟨hz, hz2, hb⟩)
  replace HE := Lib.hid (HE.out.step hb)
  clear hsa hz hz2 hb k0 k1 k2 k3 k4 k5 k6 k7 k8 k9 k10 k11
  obtain ⟨⟨k0, k1, k2, k3, k4, k5⟩, ⟨k6, k7, k8, k9, k10, k11⟩⟩ := HE.out.box.load
  go_wp2_with fail
  refine (new_at x T 32 _ HE.out.tab (HR.out.below HE.out.bel) HNE).mono ?_
  rintro e wb ⟨sb, yb, rfl, hsb, hy, hy2, hb⟩
  have HSB := Lib.hid hsb
  have HZB := Lib.hid (show wa.heap.size ≤ sb ∧ wb.heap.size = sb + 1 ∧ Below wa.heap.size wa wb from ⟨hy, hy2, hb⟩)
  replace HE := Lib.hid (HE.out.step hb)
  have HSA2 := Lib.hid (HSA.out.below hb)
  have HBXb := Lib.hid ((HBX.out.below HZA.out.2.2).below hb)
  have hsp := (HSP.out.below HZA.out.2.2).below hb
  have hwm := fun b off e j => ((hb.frozen (p := ⟨b, j, none⟩) (by have h1 := HCB.out b off e; have h2 := HGB.out; have h3 := HZA.out.2.2.size; simp only; omega)).trans (HZA.out.2.2.frozen (p := ⟨b, j, none⟩) (by have h1 := HCB.out b off e; have h2 := HGB.out; simp only; omega))).trans (HWM.out b off e j)
  have HCS := Lib.hid (ClsSt.start HBXb.out hsp HNC.out hwm)
  have q1c : wb.cell? ⟨g, 1, none⟩ = some (.slice pa1 na1 qa1) := ((HBXb.out 1 (by omega)).1).trans (congrArg some (show x.a1 = _ from HA1.out))
  clear hsb hy hy2 hb k0 k1 k2 k3 k4 k5 k6 k7 k8 k9 k10 k11 hsp hwm HSA HBX HSP HWM HBXb
  have hna1 : na1 ≤ 1000 := by rw [← HNC.out]; exact (norm_small HM.out.check).2.1
  go_wp2
  clear q1c
  go_loopw [55] (fun i wr => ∃ k : Nat, k ≤ na1 ∧ i = .int .i64 k ∧ Hid (ClsSt wb g pa1 na1 (fOf x) wr)) (fun i _ => na1 - (intOf i).toNat)
  case atStart => exact ⟨0, Nat.zero_le _, rfl, HCS⟩
  case round =>
    obtain ⟨k, hk, rfl, hcs⟩ := hrel
    clear HCS
    by_cases hlt : k < na1
    · obtain ⟨b, off, v, rfl, hcv⟩ := hcs.out.row k hlt
      have hfz := hcs.out.frz b off rfl (off + k * 3 + 2)
      have k1 : wr.cell? ⟨g, 1, none⟩ = some (.slice (some ⟨b, off, none⟩) na1 qa1) := ((hcs.out.box 1 (by omega)).1).trans (congrArg some (show x.a1 = _ from HA1.out))
      have hbg : b ≠ g := by have := (HCB.out b off rfl).2; omega
      have HCN := Lib.hid (hcs.out.set hbg k (.int .i64 1))
      go_wp2
      go_roundw
      case rel => exact ⟨k + 1, by omega, by go_num, HCN⟩
      case measure => simp [intOf]; omega
    · obtain rfl : k = na1 := by omega
      have HRK : Hid (∀ q, (∃ off, pa1 = some ⟨q, off, none⟩) → w.heap.size ≤ q ∧ q < g) := fun q ⟨off, e⟩ => HCB.out q off e
      have HBW : Hid (Below w.heap.size w wr) := HE.out.bel.trans (hcs.out.keep.below HE.out.bel.size (fun q _ e => (HRK.out q e).1))
      have HSA3 := Lib.hid (HSA2.out.keeps hcs.out.keep (fun q _ e => ⟨by have h1 := HRK.out q e; have h2 := HGB.out; unfold rows; omega, by have h1 := HRK.out q e; have h2 := HGB.out; have h3 := HZA.out.1; omega, (by intro e2; cases e2)⟩))
      have HSB3 := Lib.hid (HSB.out.keeps hcs.out.keep (fun q _ e => ⟨by have h1 := HRK.out q e; have h2 := HGB.out; have h3 := HZA.out.2.2.size; unfold rows; omega, by have h1 := HRK.out q e; have h2 := HGB.out; have h3 := HZA.out.2.2.size; have h4 := HZB.out.1; omega, (by intro e2; cases e2)⟩))
      have HBX3 := Lib.hid hcs.out.box
      have HSZ : Hid (wb.heap.size ≤ wr.heap.size) := hcs.out.keep.size
      clear hcs HSA2 HSB HCB HRK HE HNC HA1
      go_wp2_with fail
      refine (tables9_any p0 cap0 zs0 _ (HI0.out.below HBW.out) HL0.out).mono ?_
      rintro e w5 ⟨⟨b0, b1, b2, b3, b4, b5, b6, b7, b8, b9, b10, b11⟩, T2, rfl, htp2, hm2, hcap2, hb5, hnf2, _, _⟩
      have htv2 := htp2.tab
      obtain ⟨pb0, nb0, qb0, hsl0⟩ : Slc b0 := htv2.cat.slc
      subst hsl0
      obtain ⟨pb1, nb1, qb1, hsl1⟩ : Slc b1 := htv2.cls.slc
      subst hsl1
      obtain ⟨pb2, nb2, qb2, hsl2⟩ : Slc b2 := htv2.joi.slc
      subst hsl2
      obtain ⟨pb3, nb3, qb3, hsl3⟩ : Slc b3 := htv2.bid.slc
      subst hsl3
      obtain ⟨pb4, nb4, qb4, hsl4⟩ : Slc b4 := htv2.scr.slc
      subst hsl4
      obtain ⟨pb5, nb5, qb5, hsl5⟩ : Slc b5 := htv2.sta.slc
      subst hsl5
      obtain ⟨pb6, nb6, qb6, hsl6⟩ : Slc b6 := htv2.ign.slc
      subst hsl6
      obtain ⟨pb7, nb7, qb7, hsl7⟩ : Slc b7 := htv2.ext.slc
      subst hsl7
      obtain ⟨pb8, nb8, qb8, hsl8⟩ : Slc b8 := htv2.map.slc
      subst hsl8
      obtain ⟨pb9, nb9, qb9, hsl9⟩ : Slc b9 := htv2.dec.slc
      subst hsl9
      obtain ⟨pb10, nb10, qb10, hsl10⟩ : Slc b10 := htv2.exc.slc
      subst hsl10
      obtain ⟨pb11, nb11, qb11, hsl11⟩ : Slc b11 := htv2.pro.slc
      subst hsl11
      have HBX5 := Lib.hid (HBX3.out.below hb5)
      have HTP := Lib.hid htp2
      have HM2 := Lib.hid hm2
      have HNF2 := Lib.hid hnf2
      have HCAP2 : Hid (CapOf ⟨.slice pb0 nb0 qb0, .slice pb1 nb1 qb1, .slice pb2 nb2 qb2, .slice pb3 nb3 qb3, .slice pb4 nb4 qb4, .slice pb5 nb5 qb5, .slice pb6 nb6 qb6, .slice pb7 nb7 qb7, .slice pb8 nb8 qb8, .slice pb9 nb9 qb9, .slice pb10 nb10 qb10, .slice pb11 nb11 qb11⟩) := hcap2
      have HB5 := Lib.hid hb5
      clear htp2 htv2 hm2 hcap2 hb5 hnf2 HBX3
      obtain ⟨s0, t0⟩ := HBX5.out 0 (by omega)
      obtain ⟨s1, t1⟩ := HBX5.out 1 (by omega)
      obtain ⟨s2, t2⟩ := HBX5.out 2 (by omega)
      obtain ⟨s3, t3⟩ := HBX5.out 3 (by omega)
      obtain ⟨s4, t4⟩ := HBX5.out 4 (by omega)
      obtain ⟨s5, t5⟩ := HBX5.out 5 (by omega)
      obtain ⟨s6, t6⟩ := HBX5.out 6 (by omega)
      obtain ⟨s7, t7⟩ := HBX5.out 7 (by omega)
      obtain ⟨s8, t8⟩ := HBX5.out 8 (by omega)
      obtain ⟨s9, t9⟩ := HBX5.out 9 (by omega)
      obtain ⟨s10, t10⟩ := HBX5.out 10 (by omega)
      obtain ⟨s11, t11⟩ := HBX5.out 11 (by omega)
      go_upto_region 12 with (fail)
      obtain ⟨hbF, hkF⟩ := store12 w5 g (.slice pb0 nb0 qb0) (.slice pb1 nb1 qb1) (.slice pb2 nb2 qb2) (.slice pb3 nb3 qb3) (.slice pb4 nb4 qb4) (.slice pb5 nb5 qb5) (.slice pb6 nb6 qb6) (.slice pb7 nb7 qb7) (.slice pb8 nb8 qb8) (.slice pb9 nb9 qb9) (.slice pb10 nb10 qb10) (.slice pb11 nb11 qb11) HBX5.out
      clear s0 t0 s1 t1 s2 t2 s3 t3 s4 t4 s5 t5 s6 t6 s7 t7 s8 t8 s9 t9 s10 t10 s11 t11 HBX5
      generalize (World.setCell (World.setCell (World.setCell (World.setCell (World.setCell (World.setCell (World.setCell (World.setCell (World.setCell (World.setCell (World.setCell (World.setCell w5 ⟨g, 0, none⟩ (.slice pb0 nb0 qb0)) ⟨g, 1, none⟩ (.slice pb1 nb1 qb1)) ⟨g, 2, none⟩ (.slice pb2 nb2 qb2)) ⟨g, 3, none⟩ (.slice pb3 nb3 qb3)) ⟨g, 4, none⟩ (.slice pb4 nb4 qb4)) ⟨g, 5, none⟩ (.slice pb5 nb5 qb5)) ⟨g, 6, none⟩ (.slice pb6 nb6 qb6)) ⟨g, 7, none⟩ (.slice pb7 nb7 qb7)) ⟨g, 8, none⟩ (.slice pb8 nb8 qb8)) ⟨g, 9, none⟩ (.slice pb9 nb9 qb9)) ⟨g, 10, none⟩ (.slice pb10 nb10 qb10)) ⟨g, 11, none⟩ (.slice pb11 nb11 qb11)) = WF at hbF hkF ⊢
      generalize (⟨.slice pb0 nb0 qb0, .slice pb1 nb1 qb1, .slice pb2 nb2 qb2, .slice pb3 nb3 qb3, .slice pb4 nb4 qb4, .slice pb5 nb5 qb5, .slice pb6 nb6 qb6, .slice pb7 nb7 qb7, .slice pb8 nb8 qb8, .slice pb9 nb9 qb9, .slice pb10 nb10 qb10, .slice pb11 nb11 qb11⟩ : TV) = x2 at hbF HTP HCAP2
      have HTP2 := Lib.hid (HTP.out.keeps hkF (fun q _ e => by have h1 := HGB.out; have h2 := HZA.out.2.2.size; have h3 := HZB.out.2.2.size; have h4 := HSZ.out; omega))
      have HBF : Hid (Below w.heap.size w WF) := (HBW.out.trans (HB5.out.mono HBW.out.size)).trans (hkF.below (Nat.le_trans HBW.out.size HB5.out.size) (fun q _ e => by have := HGB.out; omega))
      have HSA5 := Lib.hid ((HSA3.out.below HB5.out).keeps hkF (fun q _ e => ⟨by have h2 := HGB.out; unfold rows; omega, by have h2 := HGB.out; have h3 := HZA.out.1; omega, (by intro e2; cases e2)⟩))
      have HSB5 := Lib.hid ((HSB3.out.below HB5.out).keeps hkF (fun q _ e => ⟨by have h2 := HGB.out; have h3 := HZA.out.2.2.size; unfold rows; omega, by have h2 := HGB.out; have h3 := HZA.out.2.2.size; have h4 := HZB.out.1; omega, (by intro e2; cases e2)⟩))
      have HBXF := Lib.hid hbF
      have HSZ5 : Hid (wr.heap.size ≤ WF.heap.size) := Nat.le_trans HB5.out.size hkF.size
      have HSBL : Hid (sb < wr.heap.size) := by have h1 := HZB.out.2.1; have h2 := HSZ.out; unfold Hid; omega
      clear hbF hkF HTP HBW HB5 HSA3 HSB3
      go_wp2_with fail
      refine (dense9_any p1 cap1 zs1 _ (HI1.out.below HBF.out) HL1.out).mono ?_
      rintro e w6 ⟨xs, v6, rfl, hn6, hs6, hi6, hb6⟩
      have HB6 := Lib.hid (HBF.out.trans (hb6.mono HBF.out.size))
      obtain ⟨nx, hnx⟩ : ∃ n, xs.length = n := ⟨_, rfl⟩
      obtain ⟨px, cx, ex, _⟩ := hi6.inn
      rw [hnx] at hn6 ex
      subst ex
      have HNX := Lib.hid hnx
      have HSX := Lib.hid hs6
      have HI6 := Lib.hid hi6
      have HBB6 := Lib.hid hb6
      clear hnx hs6 hi6 hb6
      go_wp2_with fail
      refine (dense9_any p2 cap2 zs2 _ (HI2.out.below HB6.out) HL2.out).mono ?_
      rintro e w7 ⟨ys, v7, rfl, hn7, hs7, hi7, hb7⟩
      obtain ⟨ny, hny⟩ : ∃ n, ys.length = n := ⟨_, rfl⟩
      obtain ⟨py, cy, ey, _⟩ := hi7.inn
      rw [hny] at hn7 ey
      subst ey
      have HNY := Lib.hid hny
      have HSY := Lib.hid hs7
      have HB7 := Lib.hid (HB6.out.trans (hb7.mono HB6.out.size))
      have HDU : Hid (Duo w.heap.size wr.heap.size w7.heap.size g sa sb W.heap.size wa.heap.size x2 T2 ya yb (nrmT T) (.slice px nx cx) (.slice py ny cy) xs ys w w7 (.slice none 0 0) (.slice none 0 0) [] [] (.slice none 0 0) (.slice none 0 0) [] []) := by
        have z1 := HGB.out
        have z2 := HZA.out
        have z3 := HZB.out
        have z4 := HSBL.out
        have z5 := HSZ5.out
        have z6 := HBB6.out.size
        have z7 := hb7.size
        have z8 := HSA5.out.lt
        have hxl := fun b e => World.ownsRow.lt HI6.out b e
        refine ⟨⟨HB7.out, ((HTP2.out.below HBB6.out).below hb7).weak (fun q hq hp => ⟨hp, hq⟩), (HBXF.out.below HBB6.out).below hb7, (HI6.out.below hb7).mono z5, hi7.mono (Nat.le_trans z5 z6), fun b e => Nat.lt_of_lt_of_le (hxl b e).2 z7, fun b e => (World.ownsRow.lt hi7 b e).2, Nat.le_refl _, ⟨z1.1, by omega, by omega, by omega, by omega⟩⟩, ((HSA5.out.below HBB6.out).below hb7).fresh (by omega), ((HSB5.out.below HBB6.out).below hb7).fresh (by omega), by omega, Ints.nil _ _, Ints.nil _ _, Dj.nil _ _ _, Dj.nil _ _ _, Dj.nil _ _ _, Dj.nil _ _ _, Dj.nil _ _ _, Dj.nil _ _ _⟩
      clear hny hs7 hi7 hb7 HTP2 HBXF HI6 HBB6 HSA5 HSB5 HB6 HB7 HBF HSBL HSZ5 HSZ HZA HZB HGB
      generalize w7.heap.size = c at HDU
      generalize wr.heap.size = lo at HDU
      generalize W.heap.size = la at HDU
      generalize wa.heap.size = lb at HDU
      have HWX : Hid (Whl T (xs.take 0) [] []) := Whl.start T HV.out
      have HWY : Hid (Whl T (ys.take 0) [] []) := Whl.start T HV.out
      go_wp2
      go_loopw [15, 16, 17] (fun o q i wr => ∃ (k : Nat) (va vb : Value) (Ha Hb O K : List Int), (k ≤ nx ∨ k ≤ ny) ∧ i = .int .i64 k ∧ Hid (Duo w.heap.size lo c g sa sb la lb x2 T2 ya yb (nrmT T) (.slice px nx cx) (.slice py ny cy) xs ys w wr va vb Ha Hb o q O K) ∧ Hid (Whl T (xs.take k) Ha O) ∧ Hid (Whl T (ys.take k) Hb K)) (fun _ _ i _ => nx + ny - (intOf i).toNat)
      case atStart => exact ⟨0, _, _, _, _, _, _, .inl (Nat.zero_le _), rfl, HDU, HWX, HWY⟩
      case round =>
        obtain ⟨k, va, vb, Ha, Hb, O, K, hk, rfl, hdu, hwx, hwy⟩ := hrel
        clear HDU HWX HWY
        by_cases hx : k < nx
        · by_cases hy : k < ny
          · obtain ⟨g1, rfl, hck1⟩ := hdu.out.base.inx.get HNX.out k hx
            obtain ⟨z1, hz1⟩ : ∃ c, xs.getD k 0 = c := ⟨_, rfl⟩
            have hkl1 : k < xs.length := by rw [HNX.out]; exact hx
            have hsc1 : scaB z1 = true := List.all_eq_true.1 HSX.out z1 (by rw [← hz1]; simp [hkl1])
            have htk1 := take_snoc_int xs k hkl1
            rw [hz1] at hck1 htk1
            have hlen1 := hwx.out.len
            rw [List.length_take, HNX.out] at hlen1
            have hpe1 := push_ok (T := T) (m := 32) (H := Ha) hsc1 (by omega)
            have hpo1 := push_out (T := T) (m := 32) (H := Ha) (z := z1)
            obtain ⟨⟨H1, O1, E1⟩, hp1⟩ : ∃ q, pushT T 32 Ha z1 = q := ⟨_, rfl⟩
            rw [hp1] at hpe1 hpo1
            simp only at hpe1 hpo1
            subst hpe1
            have hw21 := hwx.out.push HV.out (by rw [List.length_take, HNX.out]; omega) (List.all_eq_true.2 (fun e he => List.all_eq_true.1 HSX.out e (List.mem_of_mem_take he))) hp1
            rw [← htk1] at hw21
            have HP1 : Hid (pushT (nrmT T) 32 Ha z1 = (H1, O1, 0)) := (nrm_push HV.out 32 Ha z1).trans hp1
            have HW1 := Lib.hid hw21
            obtain ⟨nu1, hnu1⟩ : ∃ n, O1.length = n := ⟨_, rfl⟩
            obtain ⟨no1, hno1⟩ : ∃ n, O.length = n := ⟨_, rfl⟩
            rw [hnu1] at hpo1
            have hno21 : no1 ≤ 4096 := by rw [← hno1]; exact hlen1.2
            have HNU1 := Lib.hid hnu1
            have HNO1 := Lib.hid hno1
            clear hz1 hsc1 htk1 hlen1 hp1 hw21 hnu1 hno1 hkl1
            go_wp2_with fail
            refine (push_at la sa sa ya (nrmT T) 32 c va Ha z1 H1 O1 0 _ hdu.out.sta (HR.out.below hdu.out.base.bel) hdu.out.base.csz HP1).mono ?_
            rintro e w1p ⟨u1, v1n, rfl, hu1, hs1, hk1, ho1⟩
            have HDP1 := Lib.hid (hdu.out.pushA hk1 hs1 ho1)
            obtain ⟨pu1, cu1, eu1, hiu1⟩ := hu1.inn
            rw [HNU1.out] at eu1
            subst eu1
            have HIU1 := Lib.hid hiu1
            clear hu1 hs1 hk1 ho1 hiu1 hck1
            go_wp2_with (at_builtin; refine wpList_append_ints_at _ _ rfl rfl c u15 O (by rfl) (by exact HDP1.out.out) pu1 nu1 cu1 O1 HNU1.out (by rfl) (by exact HIU1.out) (by rw [HNU1.out, HNO1.out]; omega) (by exact HDP1.out.base.csz) ?_; intro o1n w1q hoo1 hgg1 hvv1)
            have HD1 := Lib.hid (HDP1.out.app hgg1 hoo1 hvv1)
            clear hoo1 hgg1 hvv1
            obtain ⟨g2, rfl, hck2⟩ := HD1.out.base.iny.get HNY.out k hy
            obtain ⟨z2, hz2⟩ : ∃ c, ys.getD k 0 = c := ⟨_, rfl⟩
            have hkl2 : k < ys.length := by rw [HNY.out]; exact hy
            have hsc2 : scaB z2 = true := List.all_eq_true.1 HSY.out z2 (by rw [← hz2]; simp [hkl2])
            have htk2 := take_snoc_int ys k hkl2
            rw [hz2] at hck2 htk2
            have hlen2 := hwy.out.len
            rw [List.length_take, HNY.out] at hlen2
            have hpe2 := push_ok (T := T) (m := 32) (H := Hb) hsc2 (by omega)
            have hpo2 := push_out (T := T) (m := 32) (H := Hb) (z := z2)
            obtain ⟨⟨H2, O2, E2⟩, hp2⟩ : ∃ q, pushT T 32 Hb z2 = q := ⟨_, rfl⟩
            rw [hp2] at hpe2 hpo2
            simp only at hpe2 hpo2
            subst hpe2
            have hw22 := hwy.out.push HV.out (by rw [List.length_take, HNY.out]; omega) (List.all_eq_true.2 (fun e he => List.all_eq_true.1 HSY.out e (List.mem_of_mem_take he))) hp2
            rw [← htk2] at hw22
            have HP2 : Hid (pushT (nrmT T) 32 Hb z2 = (H2, O2, 0)) := (nrm_push HV.out 32 Hb z2).trans hp2
            have HW2 := Lib.hid hw22
            obtain ⟨nu2, hnu2⟩ : ∃ n, O2.length = n := ⟨_, rfl⟩
            obtain ⟨no2, hno2⟩ : ∃ n, K.length = n := ⟨_, rfl⟩
            rw [hnu2] at hpo2
            have hno22 : no2 ≤ 4096 := by rw [← hno2]; exact hlen2.2
            have HNU2 := Lib.hid hnu2
            have HNO2 := Lib.hid hno2
            clear hz2 hsc2 htk2 hlen2 hp2 hw22 hnu2 hno2 hkl2
            go_wp2_with fail
            go_simp
            go_wp2_with fail
            refine (push_at lb sb sb yb (nrmT T) 32 c vb Hb z2 H2 O2 0 _ HD1.out.stb (HR.out.below HD1.out.base.bel) HD1.out.base.csz HP2).mono ?_
            rintro e w2p ⟨u2, v2n, rfl, hu2, hs2, hk2, ho2⟩
            have HDP2 := Lib.hid (HD1.out.pushB hk2 hs2 ho2)
            obtain ⟨pu2, cu2, eu2, hiu2⟩ := hu2.inn
            rw [HNU2.out] at eu2
            subst eu2
            have HIU2 := Lib.hid hiu2
            clear hu2 hs2 hk2 ho2 hiu2 hck2
            go_wp2_with (at_builtin; refine wpList_append_ints_at _ _ rfl rfl c u16 K (by rfl) (by exact HDP2.out.kep) pu2 nu2 cu2 O2 HNU2.out (by rfl) (by exact HIU2.out) (by rw [HNU2.out, HNO2.out]; omega) (by exact HDP2.out.base.csz) ?_; intro o2n w2q hoo2 hgg2 hvv2)
            have HD2 := Lib.hid (HDP2.out.appk hgg2 hoo2 hvv2)
            clear hoo2 hgg2 hvv2
            go_wp2
            go_roundw
            case rel => exact ⟨k + 1, v1n, v2n, H1, H2, O ++ O1, K ++ O2, (.inl (by omega)), by go_num, HD2, HW1, HW2⟩
            case measure => simp [intOf]; omega
          · have HWYn : Hid (Whl T (ys.take (k + 1)) Hb K) := by
              have h := hwy.out
              rw [List.take_of_length_le (by rw [HNY.out]; omega)] at h
              unfold Hid
              rw [List.take_of_length_le (by rw [HNY.out]; omega)]; exact h
            obtain ⟨g1, rfl, hck1⟩ := hdu.out.base.inx.get HNX.out k hx
            obtain ⟨z1, hz1⟩ : ∃ c, xs.getD k 0 = c := ⟨_, rfl⟩
            have hkl1 : k < xs.length := by rw [HNX.out]; exact hx
            have hsc1 : scaB z1 = true := List.all_eq_true.1 HSX.out z1 (by rw [← hz1]; simp [hkl1])
            have htk1 := take_snoc_int xs k hkl1
            rw [hz1] at hck1 htk1
            have hlen1 := hwx.out.len
            rw [List.length_take, HNX.out] at hlen1
            have hpe1 := push_ok (T := T) (m := 32) (H := Ha) hsc1 (by omega)
            have hpo1 := push_out (T := T) (m := 32) (H := Ha) (z := z1)
            obtain ⟨⟨H1, O1, E1⟩, hp1⟩ : ∃ q, pushT T 32 Ha z1 = q := ⟨_, rfl⟩
            rw [hp1] at hpe1 hpo1
            simp only at hpe1 hpo1
            subst hpe1
            have hw21 := hwx.out.push HV.out (by rw [List.length_take, HNX.out]; omega) (List.all_eq_true.2 (fun e he => List.all_eq_true.1 HSX.out e (List.mem_of_mem_take he))) hp1
            rw [← htk1] at hw21
            have HP1 : Hid (pushT (nrmT T) 32 Ha z1 = (H1, O1, 0)) := (nrm_push HV.out 32 Ha z1).trans hp1
            have HW1 := Lib.hid hw21
            obtain ⟨nu1, hnu1⟩ : ∃ n, O1.length = n := ⟨_, rfl⟩
            obtain ⟨no1, hno1⟩ : ∃ n, O.length = n := ⟨_, rfl⟩
            rw [hnu1] at hpo1
            have hno21 : no1 ≤ 4096 := by rw [← hno1]; exact hlen1.2
            have HNU1 := Lib.hid hnu1
            have HNO1 := Lib.hid hno1
            clear hz1 hsc1 htk1 hlen1 hp1 hw21 hnu1 hno1 hkl1
            go_wp2_with fail
            refine (push_at la sa sa ya (nrmT T) 32 c va Ha z1 H1 O1 0 _ hdu.out.sta (HR.out.below hdu.out.base.bel) hdu.out.base.csz HP1).mono ?_
            rintro e w1p ⟨u1, v1n, rfl, hu1, hs1, hk1, ho1⟩
            have HDP1 := Lib.hid (hdu.out.pushA hk1 hs1 ho1)
            obtain ⟨pu1, cu1, eu1, hiu1⟩ := hu1.inn
            rw [HNU1.out] at eu1
            subst eu1
            have HIU1 := Lib.hid hiu1
            clear hu1 hs1 hk1 ho1 hiu1 hck1
            go_wp2_with (at_builtin; refine wpList_append_ints_at _ _ rfl rfl c u15 O (by rfl) (by exact HDP1.out.out) pu1 nu1 cu1 O1 HNU1.out (by rfl) (by exact HIU1.out) (by rw [HNU1.out, HNO1.out]; omega) (by exact HDP1.out.base.csz) ?_; intro o1n w1q hoo1 hgg1 hvv1)
            have HD1 := Lib.hid (HDP1.out.app hgg1 hoo1 hvv1)
            clear hoo1 hgg1 hvv1
            go_wp2
            go_roundw
            case rel => exact ⟨k + 1, v1n, vb, H1, Hb, O ++ O1, K, (.inl (by omega)), by go_num, HD1, HW1, HWYn⟩
            case measure => simp [intOf]; omega
        · by_cases hy : k < ny
          · have HWXn : Hid (Whl T (xs.take (k + 1)) Ha O) := by
              have h := hwx.out
              rw [List.take_of_length_le (by rw [HNX.out]; omega)] at h
              unfold Hid
              rw [List.take_of_length_le (by rw [HNX.out]; omega)]; exact h
            obtain ⟨g2, rfl, hck2⟩ := hdu.out.base.iny.get HNY.out k hy
            obtain ⟨z2, hz2⟩ : ∃ c, ys.getD k 0 = c := ⟨_, rfl⟩
            have hkl2 : k < ys.length := by rw [HNY.out]; exact hy
            have hsc2 : scaB z2 = true := List.all_eq_true.1 HSY.out z2 (by rw [← hz2]; simp [hkl2])
            have htk2 := take_snoc_int ys k hkl2
            rw [hz2] at hck2 htk2
            have hlen2 := hwy.out.len
            rw [List.length_take, HNY.out] at hlen2
            have hpe2 := push_ok (T := T) (m := 32) (H := Hb) hsc2 (by omega)
            have hpo2 := push_out (T := T) (m := 32) (H := Hb) (z := z2)
            obtain ⟨⟨H2, O2, E2⟩, hp2⟩ : ∃ q, pushT T 32 Hb z2 = q := ⟨_, rfl⟩
            rw [hp2] at hpe2 hpo2
            simp only at hpe2 hpo2
            subst hpe2
            have hw22 := hwy.out.push HV.out (by rw [List.length_take, HNY.out]; omega) (List.all_eq_true.2 (fun e he => List.all_eq_true.1 HSY.out e (List.mem_of_mem_take he))) hp2
            rw [← htk2] at hw22
            have HP2 : Hid (pushT (nrmT T) 32 Hb z2 = (H2, O2, 0)) := (nrm_push HV.out 32 Hb z2).trans hp2
            have HW2 := Lib.hid hw22
            obtain ⟨nu2, hnu2⟩ : ∃ n, O2.length = n := ⟨_, rfl⟩
            obtain ⟨no2, hno2⟩ : ∃ n, K.length = n := ⟨_, rfl⟩
            rw [hnu2] at hpo2
            have hno22 : no2 ≤ 4096 := by rw [← hno2]; exact hlen2.2
            have HNU2 := Lib.hid hnu2
            have HNO2 := Lib.hid hno2
            clear hz2 hsc2 htk2 hlen2 hp2 hw22 hnu2 hno2 hkl2
            go_wp2_with fail
            refine (push_at lb sb sb yb (nrmT T) 32 c vb Hb z2 H2 O2 0 _ hdu.out.stb (HR.out.below hdu.out.base.bel) hdu.out.base.csz HP2).mono ?_
            rintro e w2p ⟨u2, v2n, rfl, hu2, hs2, hk2, ho2⟩
            have HDP2 := Lib.hid (hdu.out.pushB hk2 hs2 ho2)
            obtain ⟨pu2, cu2, eu2, hiu2⟩ := hu2.inn
            rw [HNU2.out] at eu2
            subst eu2
            have HIU2 := Lib.hid hiu2
            clear hu2 hs2 hk2 ho2 hiu2 hck2
            go_wp2_with (at_builtin; refine wpList_append_ints_at _ _ rfl rfl c u16 K (by rfl) (by exact HDP2.out.kep) pu2 nu2 cu2 O2 HNU2.out (by rfl) (by exact HIU2.out) (by rw [HNU2.out, HNO2.out]; omega) (by exact HDP2.out.base.csz) ?_; intro o2n w2q hoo2 hgg2 hvv2)
            have HD2 := Lib.hid (HDP2.out.appk hgg2 hoo2 hvv2)
            clear hoo2 hgg2 hvv2
            go_wp2
            go_roundw
            case rel => exact ⟨k + 1, va, v2n, Ha, H2, O, K ++ O2, (.inr (by omega)), by go_num, HD2, HWXn, HW2⟩
            case measure => simp [intOf]; omega
          · have hlx := hwx.out.len
            have hly := hwy.out.len
            have hfx := hwx.out
            have hfy := hwy.out
            rw [List.take_of_length_le (by rw [HNX.out]; omega)] at hfx
            rw [List.take_of_length_le (by rw [HNY.out]; omega)] at hfy
            have hfinx := hfx.fin HV.out (by rw [HNX.out]; omega) HSX.out
            have hfiny := hfy.fin HV.out (by rw [HNY.out]; omega) HSY.out
            have HEX := Lib.hid (nfd_small (T := T2) HM2.out.check HSX.out (by rw [HNX.out]; omega))
            have HEY := Lib.hid (nfd_small (T := T2) HM2.out.check HSY.out (by rw [HNY.out]; omega))
            obtain ⟨Oa, hOa⟩ : ∃ L, nfcL T Ha = L := ⟨_, rfl⟩
            obtain ⟨Ob, hOb⟩ : ∃ L, nfcL T Hb = L := ⟨_, rfl⟩
            obtain ⟨L1, hL1⟩ : ∃ L, nfcL T xs = L := ⟨_, rfl⟩
            obtain ⟨L2, hL2⟩ : ∃ L, nfcL T ys = L := ⟨_, rfl⟩
            have hla : Oa.length ≤ 4096 := by rw [← hOa]; exact nfcL_len T Ha
            have hlb : Ob.length ≤ 4096 := by rw [← hOb]; exact nfcL_len T Hb
            have hll1 : L1.length ≤ 4096 := by rw [← hL1]; exact nfcL_len T xs
            have hll2 : L2.length ≤ 4096 := by rw [← hL2]; exact nfcL_len T ys
            rw [hOa, hL1] at hfinx
            rw [hOb, hL2] at hfiny
            have HFX := Lib.hid hfinx
            have HFY := Lib.hid hfiny
            have HL1X : Hid (nfcL T2 xs = L1) := (nfc_norm HNF.out HNF2.out HV.out HM2.out.check xs).trans hL1
            have HL2X : Hid (nfcL T2 ys = L2) := (nfc_norm HNF.out HNF2.out HV.out HM2.out.check ys).trans hL2
            have HLL1 : Hid (L1.length ≤ 17592186043904) := by unfold Hid; omega
            have HLL2 : Hid (L2.length ≤ 17592186043904) := by unfold Hid; omega
            have HOA : Hid (nfcL (nrmT T) Ha = Oa) := (nrm_nfcL HV.out Ha).trans hOa
            have HOB : Hid (nfcL (nrmT T) Hb = Ob) := (nrm_nfcL HV.out Hb).trans hOb
            obtain ⟨nua, hnua⟩ : ∃ n, Oa.length = n := ⟨_, rfl⟩
            obtain ⟨nub, hnub⟩ : ∃ n, Ob.length = n := ⟨_, rfl⟩
            obtain ⟨noa, hnoa⟩ : ∃ n, O.length = n := ⟨_, rfl⟩
            obtain ⟨nob, hnob⟩ : ∃ n, K.length = n := ⟨_, rfl⟩
            have hnoa2 : noa ≤ 4096 := by rw [← hnoa]; exact hlx.2
            have hnob2 : nob ≤ 4096 := by rw [← hnob]; exact hly.2
            rw [hnua] at hla
            rw [hnub] at hlb
            have HNUA := Lib.hid hnua
            have HNUB := Lib.hid hnub
            have HNOA := Lib.hid hnoa
            have HNOB := Lib.hid hnob
            have hnfx := fun W2 (h1 : TabV W2 x2 T2) h2 => rnfc_at x2 T2 px cx xs 0 L1 W2 h1 HCAP2.out h2 (by rw [HNX.out]; omega) HEX HL1X
            have hnfy := fun W2 (h1 : TabV W2 x2 T2) h2 => rnfc_at x2 T2 py cy ys 0 L2 W2 h1 HCAP2.out h2 (by rw [HNY.out]; omega) HEY HL2X
            rw [HNX.out] at hnfx
            rw [HNY.out] at hnfy
            have HNFX := Lib.hid hnfx
            have HNFY := Lib.hid hnfy
            have t1 : (L1 == L1) = true := by simp
            have t2 : (L2 == L2) = true := by simp
            clear hlx hly hfx hfy hfinx hfiny hOa hOb hL1 hL2 hll1 hll2 hnua hnub hnoa hnob hwx hwy hnfx hnfy HEX HEY
            go_wp2_with fail
            refine (end_at la sa sa ya (nrmT T) 32 c va Ha Oa _ hdu.out.sta (HR.out.below hdu.out.base.bel) HOA).mono ?_
            rintro e w20 ⟨u20, v20, rfl, hu20, hs20, hk20, hv20⟩
            have HD20 := Lib.hid (hdu.out.pushA (hk20.weak (fun _ _ e => .inl e)) hs20 (fun b _ hn e => hn (hv20 b e)))
            obtain ⟨pua, cua, eua, hiua⟩ := hu20.inn
            rw [HNUA.out] at eua
            subst eua
            have HIUA := Lib.hid hiua
            clear hu20 hs20 hk20 hv20 hiua hdu
            go_wp2_with (at_builtin; refine wpList_append_ints_at _ _ rfl rfl c u15 O (by rfl) (by exact HD20.out.out) pua nua cua Oa HNUA.out (by rfl) (by exact HIUA.out) (by rw [HNUA.out, HNOA.out]; omega) (by exact HD20.out.base.csz) ?_
                         intro o21 w21 ho21 hg21 hv21
                         rw [HFX.out] at ho21
                         have HD21 := Lib.hid (HD20.out.app hg21 ho21 hv21))
            clear ho21 hg21 hv21 HD20
            go_wp2_with fail
            refine (end_at lb sb sb yb (nrmT T) 32 c vb Hb Ob _ HD21.out.stb (HR.out.below HD21.out.base.bel) HOB).mono ?_
            rintro e w22 ⟨u22x, v22, rfl, hu22, hs22, hk22, hv22⟩
            have HD22 := Lib.hid (HD21.out.pushB (hk22.weak (fun _ _ e => .inl e)) hs22 (fun b _ hn e => hn (hv22 b e)))
            obtain ⟨pub, cub, eub, hiub⟩ := hu22.inn
            rw [HNUB.out] at eub
            subst eub
            have HIUB := Lib.hid hiub
            clear hu22 hs22 hk22 hv22 hiub HD21
            go_wp2_with (at_builtin; refine wpList_append_ints_at _ _ rfl rfl c u16 K (by rfl) (by exact HD22.out.kep) pub nub cub Ob HNUB.out (by rfl) (by exact HIUB.out) (by rw [HNUB.out, HNOB.out]; omega) (by exact HD22.out.base.csz) ?_
                         intro o23 w23 ho23 hg23 hv23
                         rw [HFY.out] at ho23
                         have HD23 := Lib.hid (HD22.out.appk hg23 ho23 hv23)
                         obtain ⟨⟨k0, k1, k2, k3, k4, k5⟩, ⟨k6, k7, k8, k9, k10, k11⟩⟩ := HD23.out.base.box.load)
            clear ho23 hg23 hv23 HD22
            go_wp2_with fail
            refine (HNFX.out _ HD23.out.base.tab.tab HD23.out.base.inx.sli).mono ?_
            rintro e w24 ⟨v24, rfl, ho24, hb24⟩
            have HD24 := Lib.hid (HD23.out.below hb24)
            have HO24 := Lib.hid ho24
            clear ho24 hb24 k0 k1 k2 k3 k4 k5 k6 k7 k8 k9 k10 k11 HD23
            obtain ⟨⟨k0, k1, k2, k3, k4, k5⟩, ⟨k6, k7, k8, k9, k10, k11⟩⟩ := HD24.out.base.box.load
            go_wp2_with fail
            refine (HNFY.out _ HD24.out.base.tab.tab HD24.out.base.iny.sli).mono ?_
            rintro e w25 ⟨v25, rfl, ho25, hb25⟩
            have HD25 := Lib.hid (HD24.out.below hb25)
            have HO25 := Lib.hid ho25
            replace HO24 := Lib.hid (HO24.out.below hb25)
            clear ho25 hb25 k0 k1 k2 k3 k4 k5 k6 k7 k8 k9 k10 k11 HD24
            go_wp2_with fail
            refine (awake9_any _ (HR.out.below HD25.out.base.bel)).mono ?_
            rintro e w26 ⟨rfl, hb⟩
            have HD26 := Lib.hid (HD25.out.below hb)
            replace HO24 := Lib.hid (HO24.out.below hb)
            replace HO25 := Lib.hid (HO25.out.below hb)
            clear hb HD25
            go_wp2_with fail
            refine (same_at o21 v24 L1 L1 true _ (HD26.out.out.inV HLL1.out) (HO24.out.inV HLL1.out) t1).mono ?_
            rintro e w27 ⟨rfl, hb⟩
            have HD27 := Lib.hid (HD26.out.below hb)
            replace HO25 := Lib.hid (HO25.out.below hb)
            clear hb HD26
            go_wp2_with fail
            refine (same_at o23 v25 L2 L2 true _ (HD27.out.kep.inV HLL2.out) (HO25.out.inV HLL2.out) t2).mono ?_
            rintro e w28 ⟨rfl, hb⟩
            have HZ := Lib.hid (HD27.out.below hb).base.bel
            clear hb
            go_wp2
            go_ret
            exact ⟨rfl, HZ.out⟩

end Go.Proofs.YtfmfifmmaihodaaGreatDoor
