/-
  The walk of ContextMade (genCY.py).
-/
import Derived.Test.YtddphlindcabpaaGreatDoorSSlPkZZL
import Derived.Test.YtddphlindcabpaaGreatDoorSSlTblQ
import Derived.Deep.RegionHeld3
set_option linter.unusedSimpArgs false
set_option linter.unusedVariables false
namespace Go.Proofs.YtddphlindcabpaaGreatDoor
open Go.RowKit
set_option linter.unusedVariables false

theorem pick15_at (i q : Int) (w : World) (hq : Hid (pickS i 180 = q)) : Calls Tryz.prog 10 #[.int .i64 i, .int .i64 180] w (Gives (.int .i64 q) w) :=
  (pickN_at i 180 q w (by omega) (by omega) hq).mono fun e w' h => ⟨h.1, h.2 ▸ Below.refl _ _⟩

set_option maxRecDepth 100000 in
set_option maxHeartbeats 8000000 in
theorem contextMade_walk (p0 : Option Addr) (cap0 : Nat) (zs0 : List Int) (p1 : Option Addr) (cap1 : Nat) (zs1 : List Int) (n2 : Int) (w : World) (hin0 : IntsIn w p0 zs0) (hl0 : zs0.length ≤ 17592186043904) (hin1 : IntsIn w p1 zs1) (hl1 : zs1.length ≤ 17592186043904) (hr : Rsv w) :
    Calls Tryz.prog 3 #[.slice p0 zs0.length cap0, .slice p1 zs1.length cap1, .int .i64 n2] w (Gives (.bool true) w) := by
  have HI0 := Lib.hid hin0
  have HL0 := Lib.hid hl0
  have HI1 := Lib.hid hin1
  have HL1 := Lib.hid hl1
  have HR := Lib.hid hr
  clear hin0 hl0 hin1 hl1 hr
  go_enter Tryz.func3, Tryz.ntmps3
  go_wp2_with fail
  refine (tables_any p0 cap0 zs0 _ HI0.out HL0.out).mono ?_
  rintro e w1 ⟨⟨a0, a1, a2, a3, a4, a5, a6, a7, a8, a9, a10, a11⟩, T, rfl, htv, hm, hcap1, hb1⟩
  obtain ⟨pa0, na0, qa0, hsl0⟩ : Slc a0 := htv.cat.slc
  subst hsl0
  obtain ⟨pa1, na1, qa1, hsl1⟩ : Slc a1 := htv.cls.slc
  subst hsl1
  obtain ⟨pa2, na2, qa2, hsl2⟩ : Slc a2 := htv.joi.slc
  subst hsl2
  obtain ⟨pa3, na3, qa3, hsl3⟩ : Slc a3 := htv.bid.slc
  subst hsl3
  obtain ⟨pa4, na4, qa4, hsl4⟩ : Slc a4 := htv.scr.slc
  subst hsl4
  obtain ⟨pa5, na5, qa5, hsl5⟩ : Slc a5 := htv.sta.slc
  subst hsl5
  obtain ⟨pa6, na6, qa6, hsl6⟩ : Slc a6 := htv.ign.slc
  subst hsl6
  obtain ⟨pa7, na7, qa7, hsl7⟩ : Slc a7 := htv.ext.slc
  subst hsl7
  obtain ⟨pa8, na8, qa8, hsl8⟩ : Slc a8 := htv.map.slc
  subst hsl8
  obtain ⟨pa9, na9, qa9, hsl9⟩ : Slc a9 := htv.dec.slc
  subst hsl9
  obtain ⟨pa10, na10, qa10, hsl10⟩ : Slc a10 := htv.exc.slc
  subst hsl10
  obtain ⟨pa11, na11, qa11, hsl11⟩ : Slc a11 := htv.pro.slc
  subst hsl11
  have hba1 : Below w1.heap.size w1 (w1.alloc (.cells (tabCells ⟨.slice pa0 na0 qa0, .slice pa1 na1 qa1, .slice pa2 na2 qa2, .slice pa3 na3 qa3, .slice pa4 na4 qa4, .slice pa5 na5 qa5, .slice pa6 na6 qa6, .slice pa7 na7 qa7, .slice pa8 na8 qa8, .slice pa9 na9 qa9, .slice pa10 na10 qa10, .slice pa11 na11 qa11⟩) 26)) := (Below.refl _ _).alloc (Nat.le_refl _) _
  have HT1 : Hid (TabV (w1.alloc (.cells (tabCells ⟨.slice pa0 na0 qa0, .slice pa1 na1 qa1, .slice pa2 na2 qa2, .slice pa3 na3 qa3, .slice pa4 na4 qa4, .slice pa5 na5 qa5, .slice pa6 na6 qa6, .slice pa7 na7 qa7, .slice pa8 na8 qa8, .slice pa9 na9 qa9, .slice pa10 na10 qa10, .slice pa11 na11 qa11⟩) 26)) ⟨.slice pa0 na0 qa0, .slice pa1 na1 qa1, .slice pa2 na2 qa2, .slice pa3 na3 qa3, .slice pa4 na4 qa4, .slice pa5 na5 qa5, .slice pa6 na6 qa6, .slice pa7 na7 qa7, .slice pa8 na8 qa8, .slice pa9 na9 qa9, .slice pa10 na10 qa10, .slice pa11 na11 qa11⟩ T) := htv.below hba1
  have HX1 : Hid (BoxT (w1.alloc (.cells (tabCells ⟨.slice pa0 na0 qa0, .slice pa1 na1 qa1, .slice pa2 na2 qa2, .slice pa3 na3 qa3, .slice pa4 na4 qa4, .slice pa5 na5 qa5, .slice pa6 na6 qa6, .slice pa7 na7 qa7, .slice pa8 na8 qa8, .slice pa9 na9 qa9, .slice pa10 na10 qa10, .slice pa11 na11 qa11⟩) 26)) w1.heap.size ⟨.slice pa0 na0 qa0, .slice pa1 na1 qa1, .slice pa2 na2 qa2, .slice pa3 na3 qa3, .slice pa4 na4 qa4, .slice pa5 na5 qa5, .slice pa6 na6 qa6, .slice pa7 na7 qa7, .slice pa8 na8 qa8, .slice pa9 na9 qa9, .slice pa10 na10 qa10, .slice pa11 na11 qa11⟩) := BoxT.new _ _ _
  have HB1 : Hid (Below w.heap.size w (w1.alloc (.cells (tabCells ⟨.slice pa0 na0 qa0, .slice pa1 na1 qa1, .slice pa2 na2 qa2, .slice pa3 na3 qa3, .slice pa4 na4 qa4, .slice pa5 na5 qa5, .slice pa6 na6 qa6, .slice pa7 na7 qa7, .slice pa8 na8 qa8, .slice pa9 na9 qa9, .slice pa10 na10 qa10, .slice pa11 na11 qa11⟩) 26))) := hb1.trans (hba1.mono hb1.size)
  have HM := Lib.hid hm
  have HCAP : Hid (CapOf ⟨.slice pa0 na0 qa0, .slice pa1 na1 qa1, .slice pa2 na2 qa2, .slice pa3 na3 qa3, .slice pa4 na4 qa4, .slice pa5 na5 qa5, .slice pa6 na6 qa6, .slice pa7 na7 qa7, .slice pa8 na8 qa8, .slice pa9 na9 qa9, .slice pa10 na10 qa10, .slice pa11 na11 qa11⟩) := hcap1
  clear htv hm hcap1 hb1 hba1
  simp only [tabCells] at HT1 HX1 HB1
  go_upto_region 2 with (fail)
  generalize (w1.alloc (.cells #[.slice pa0 na0 qa0, .slice pa1 na1 qa1, .slice pa2 na2 qa2, .slice pa3 na3 qa3, .slice pa4 na4 qa4, .slice pa5 na5 qa5, .slice pa6 na6 qa6, .slice pa7 na7 qa7, .slice pa8 na8 qa8, .slice pa9 na9 qa9, .slice pa10 na10 qa10, .slice pa11 na11 qa11] 26)) = W at HT1 HX1 HB1 ⊢
  generalize w1.heap.size = g at HX1 ⊢
  generalize (⟨.slice pa0 na0 qa0, .slice pa1 na1 qa1, .slice pa2 na2 qa2, .slice pa3 na3 qa3, .slice pa4 na4 qa4, .slice pa5 na5 qa5, .slice pa6 na6 qa6, .slice pa7 na7 qa7, .slice pa8 na8 qa8, .slice pa9 na9 qa9, .slice pa10 na10 qa10, .slice pa11 na11 qa11⟩ : TV) = x at HT1 HX1 HCAP
  have HE : Hid (LEnv w g x T W) := ⟨HT1.out, HX1.out, HB1.out⟩
  clear HT1 HX1 HB1
  obtain ⟨m, hm⟩ : ∃ m, zs1.length = m := ⟨_, rfl⟩
  obtain ⟨q, hq⟩ : ∃ q, Hid (pickS n2 180 = q) := ⟨_, rfl⟩
  have hqb := pickS_bd n2 180 (by omega)
  rw [hq.out] at hqb
  obtain ⟨c, hc⟩ : ∃ c, 1616 + q = c := ⟨_, rfl⟩
  have hcw : IntKind.i64.wrap c = c := IntWalk.i64_in _ (by omega)
  clear hqb
  have hpt := fun W h1 => points_any p1 cap1 zs1 W h1 HL1.out
  have hjn := fun W h1 => special_any p1 cap1 zs1 W h1 HL1.out
  have hga := fun pa ca xs W (h1 : TabV W x T) h2 (h5 : xs.length ≤ 10) h3 => agrees15_at x T pa ca xs n2 W h1 HCAP.out h2 h3 (by omega)
  have hgb := fun pa ca xs W (h1 : TabV W x T) h2 (h5 : xs.length ≤ 10) h3 => agrees15_at x T pa ca xs c W h1 HCAP.out h2 h3 (by omega)
  rw [hm] at hpt hjn ⊢
  have HPT := Lib.hid hpt
  have HJN := Lib.hid hjn
  have HGA := Lib.hid hga
  have HGB := Lib.hid hgb
  have e0 := HE.out.step (drew_one W)
  have HE0 := Lib.hid e0
  clear hpt hjn hm hga hgb e0
  obtain ⟨⟨k0, k1, k2, k3, k4, k5⟩, ⟨k6, k7, k8, k9, k10, k11⟩⟩ := HE.out.box.load
  go_region_held3 (boxF g x)
    (first
      | exact HE0.out.box.flat
      | exact (HE0.out.step hb3).box.flat
      | exact ((HE0.out.step hb3).step hb4).box.flat
      | exact (((HE0.out.step hb3).step hb4).step hb5).box.flat
      | exact ((((HE0.out.step hb3).step hb4).step hb5).step hb6).box.flat
      | exact (((((HE0.out.step hb3).step hb4).step hb5).step hb6).step hb7).box.flat
      | exact ((((((HE0.out.step hb3).step hb4).step hb5).step hb6).step hb7).step hb8).box.flat)
    (first
      | (go_at_call 6; (with_reducible refine (awake15_any _ (HR.out.below HE0.out.bel)).mono ?_); rintro e w3 ⟨rfl, hb3⟩)
      | (go_at_call 8; (with_reducible refine (HJN.out _ (HI1.out.below (HE0.out.step hb3).bel)).mono ?_); rintro e w4 ⟨xs, v4, rfl, hn4, hs4, hi4, hb4⟩; obtain ⟨p4, c4, e4, h4⟩ := hi4.inn; subst e4)
      | (go_at_call 7; (with_reducible refine (HGA.out p4 c4 xs _ ((HE0.out.step hb3).step hb4).tab (HR.out.below ((HE0.out.step hb3).step hb4).bel) hn4 h4).mono ?_); rintro e w5 ⟨rfl, hb5⟩)
      | (go_at_call 9; (with_reducible refine (HPT.out _ (HI1.out.below (((HE0.out.step hb3).step hb4).step hb5).bel)).mono ?_); rintro e w6 ⟨ys, v6, rfl, hn6, hs6, hi6, hb6⟩; obtain ⟨p6, c6, e6, h6⟩ := hi6.inn; subst e6)
      | (go_at_call 10; (with_reducible refine (pick15_at n2 q _ hq).mono ?_); rintro e w7 ⟨rfl, hb7⟩)
      | (go_at_call 7; (with_reducible refine (HGB.out p6 c6 ys _ (((((HE0.out.step hb3).step hb4).step hb5).step hb6).step hb7).tab (HR.out.below (((((HE0.out.step hb3).step hb4).step hb5).step hb6).step hb7).bel) hn6 (h6.below hb7)).mono ?_); rintro e w8 ⟨rfl, hb8⟩)
      | fail)
  all_goals
    have HBZ := Lib.hid (((((((HE0.out.step hb3).step hb4).step hb5).step hb6).step hb7).step hb8)).bel
    clear hb3 hb4 hb5 hb6 hb7 hb8
    go_wp2
    go_ret
    exact ⟨by simp, HBZ.out⟩

end Go.Proofs.YtddphlindcabpaaGreatDoor
