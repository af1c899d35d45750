/-
  The walk of DecomposeMade (genDL.py).
-/
import Derived.Test.YtgekoeobllhnnaaGreatDoorPkZR
import Derived.Test.YtgekoeobllhnnaaGreatDoorQTblQ
import Derived.Deep.RegionHeld3
set_option linter.unusedSimpArgs false
set_option linter.unusedVariables false
namespace Go.Proofs.YtgekoeobllhnnaaGreatDoor
open Go.RowKit
set_option linter.unusedVariables false

theorem oneT_len (T : Tb) (c : Int) : (oneT T c).length ≤ 17592186043904 := by
  unfold oneT
  split
  · rename_i h
    have := (exp_len h.2 c).2
    omega
  · simp

set_option maxRecDepth 100000 in
set_option maxHeartbeats 8000000 in
theorem decomposeMade_walk (p0 : Option Addr) (cap0 : Nat) (zs0 : List Int) (p1 : Option Addr) (cap1 : Nat) (zs1 : List Int) (p2 : Option Addr) (cap2 : Nat) (zs2 : List Int) (p3 : Option Addr) (cap3 : Nat) (zs3 : List Int) (n4 : Int) (w : World) (hin0 : IntsIn w p0 zs0) (hl0 : zs0.length ≤ 17592186043904) (hin1 : IntsIn w p1 zs1) (hl1 : zs1.length ≤ 17592186043904) (hin2 : IntsIn w p2 zs2) (hl2 : zs2.length ≤ 17592186043904) (hin3 : IntsIn w p3 zs3) (hl3 : zs3.length ≤ 17592186043904) (hr : Rsv w) :
    Calls Tryz.prog 3 #[.slice p0 zs0.length cap0, .slice p1 zs1.length cap1, .slice p2 zs2.length cap2, .slice p3 zs3.length cap3, .int .i64 n4] w (Gives (.bool true) w) := by
  have HI0 := Lib.hid hin0
  have HL0 := Lib.hid hl0
  have HI1 := Lib.hid hin1
  have HL1 := Lib.hid hl1
  have HI2 := Lib.hid hin2
  have HL2 := Lib.hid hl2
  have HI3 := Lib.hid hin3
  have HL3 := Lib.hid hl3
  have HR := Lib.hid hr
  clear hin0 hl0 hin1 hl1 hin2 hl2 hin3 hl3 hr
  go_enter Tryz.func3, Tryz.ntmps3
  go_wp2_with fail
  refine (tables_any p0 cap0 zs0 _ HI0.out HL0.out).mono ?_
  rintro e w1 ⟨⟨a0, a1, a2, a3, a4, a5, a6, a7, a8, a9, a10, a11⟩, T, rfl, htv, hm, hcap1, hb1⟩
  obtain ⟨pa0, na0, qa0, hsl0⟩ : Slc a0 := htv.cat.slc
  subst hsl0
  obtain ⟨pa1, na1, qa1, hsl1⟩ : Slc a1 := htv.cls.slc
  subst hsl1
  obtain ⟨pa2, na2, qa2, hsl2⟩ : Slc a2 := htv.joi.slc
  subst hsl2
  obtain ⟨pa3, na3, qa3, hsl3⟩ : Slc a3 := htv.bid.slc
  subst hsl3
  obtain ⟨pa4, na4, qa4, hsl4⟩ : Slc a4 := htv.scr.slc
  subst hsl4
  obtain ⟨pa5, na5, qa5, hsl5⟩ : Slc a5 := htv.sta.slc
  subst hsl5
  obtain ⟨pa6, na6, qa6, hsl6⟩ : Slc a6 := htv.ign.slc
  subst hsl6
  obtain ⟨pa7, na7, qa7, hsl7⟩ : Slc a7 := htv.ext.slc
  subst hsl7
  obtain ⟨pa8, na8, qa8, hsl8⟩ : Slc a8 := htv.map.slc
  subst hsl8
  obtain ⟨pa9, na9, qa9, hsl9⟩ : Slc a9 := htv.dec.slc
  subst hsl9
  obtain ⟨pa10, na10, qa10, hsl10⟩ : Slc a10 := htv.exc.slc
  subst hsl10
  obtain ⟨pa11, na11, qa11, hsl11⟩ : Slc a11 := htv.pro.slc
  subst hsl11
  have hba1 : Below w1.heap.size w1 (w1.alloc (.cells (tabCells ⟨.slice pa0 na0 qa0, .slice pa1 na1 qa1, .slice pa2 na2 qa2, .slice pa3 na3 qa3, .slice pa4 na4 qa4, .slice pa5 na5 qa5, .slice pa6 na6 qa6, .slice pa7 na7 qa7, .slice pa8 na8 qa8, .slice pa9 na9 qa9, .slice pa10 na10 qa10, .slice pa11 na11 qa11⟩) 26)) := (Below.refl _ _).alloc (Nat.le_refl _) _
  have HT1 : Hid (TabV (w1.alloc (.cells (tabCells ⟨.slice pa0 na0 qa0, .slice pa1 na1 qa1, .slice pa2 na2 qa2, .slice pa3 na3 qa3, .slice pa4 na4 qa4, .slice pa5 na5 qa5, .slice pa6 na6 qa6, .slice pa7 na7 qa7, .slice pa8 na8 qa8, .slice pa9 na9 qa9, .slice pa10 na10 qa10, .slice pa11 na11 qa11⟩) 26)) ⟨.slice pa0 na0 qa0, .slice pa1 na1 qa1, .slice pa2 na2 qa2, .slice pa3 na3 qa3, .slice pa4 na4 qa4, .slice pa5 na5 qa5, .slice pa6 na6 qa6, .slice pa7 na7 qa7, .slice pa8 na8 qa8, .slice pa9 na9 qa9, .slice pa10 na10 qa10, .slice pa11 na11 qa11⟩ T) := htv.below hba1
  have HX1 : Hid (BoxT (w1.alloc (.cells (tabCells ⟨.slice pa0 na0 qa0, .slice pa1 na1 qa1, .slice pa2 na2 qa2, .slice pa3 na3 qa3, .slice pa4 na4 qa4, .slice pa5 na5 qa5, .slice pa6 na6 qa6, .slice pa7 na7 qa7, .slice pa8 na8 qa8, .slice pa9 na9 qa9, .slice pa10 na10 qa10, .slice pa11 na11 qa11⟩) 26)) w1.heap.size ⟨.slice pa0 na0 qa0, .slice pa1 na1 qa1, .slice pa2 na2 qa2, .slice pa3 na3 qa3, .slice pa4 na4 qa4, .slice pa5 na5 qa5, .slice pa6 na6 qa6, .slice pa7 na7 qa7, .slice pa8 na8 qa8, .slice pa9 na9 qa9, .slice pa10 na10 qa10, .slice pa11 na11 qa11⟩) := BoxT.new _ _ _
  have HB1 : Hid (Below w.heap.size w (w1.alloc (.cells (tabCells ⟨.slice pa0 na0 qa0, .slice pa1 na1 qa1, .slice pa2 na2 qa2, .slice pa3 na3 qa3, .slice pa4 na4 qa4, .slice pa5 na5 qa5, .slice pa6 na6 qa6, .slice pa7 na7 qa7, .slice pa8 na8 qa8, .slice pa9 na9 qa9, .slice pa10 na10 qa10, .slice pa11 na11 qa11⟩) 26))) := hb1.trans (hba1.mono hb1.size)
  have HM := Lib.hid hm
  have HCAP : Hid (CapOf ⟨.slice pa0 na0 qa0, .slice pa1 na1 qa1, .slice pa2 na2 qa2, .slice pa3 na3 qa3, .slice pa4 na4 qa4, .slice pa5 na5 qa5, .slice pa6 na6 qa6, .slice pa7 na7 qa7, .slice pa8 na8 qa8, .slice pa9 na9 qa9, .slice pa10 na10 qa10, .slice pa11 na11 qa11⟩) := hcap1
  clear htv hm hcap1 hb1 hba1
  simp only [tabCells] at HT1 HX1 HB1
  go_wp2_with fail
  generalize (w1.alloc (.cells #[.slice pa0 na0 qa0, .slice pa1 na1 qa1, .slice pa2 na2 qa2, .slice pa3 na3 qa3, .slice pa4 na4 qa4, .slice pa5 na5 qa5, .slice pa6 na6 qa6, .slice pa7 na7 qa7, .slice pa8 na8 qa8, .slice pa9 na9 qa9, .slice pa10 na10 qa10, .slice pa11 na11 qa11] 26)) = W at HT1 HX1 HB1 ⊢
  generalize w1.heap.size = g at HX1 ⊢
  generalize (⟨.slice pa0 na0 qa0, .slice pa1 na1 qa1, .slice pa2 na2 qa2, .slice pa3 na3 qa3, .slice pa4 na4 qa4, .slice pa5 na5 qa5, .slice pa6 na6 qa6, .slice pa7 na7 qa7, .slice pa8 na8 qa8, .slice pa9 na9 qa9, .slice pa10 na10 qa10, .slice pa11 na11 qa11⟩ : TV) = x at HT1 HX1 HCAP
  have HE : Hid (LEnv w g x T W) := ⟨HT1.out, HX1.out, HB1.out⟩
  clear HT1 HX1 HB1
  refine (points_any p1 cap1 zs1 _ (HI1.out.below HE.out.bel) HL1.out).mono ?_
  rintro e wa ⟨xs, va, rfl, hna, hsa, hi, hb⟩
  obtain ⟨pa, ca, rfl, hia⟩ := hi.inn
  replace HE := Lib.hid (HE.out.step hb)
  have Ha := Lib.hid hia
  have HSa := Lib.hid hsa
  clear hi hb hia hsa
  go_wp2_with fail
  refine (points_any p2 cap2 zs2 _ (HI2.out.below HE.out.bel) HL2.out).mono ?_
  rintro e wb ⟨ys, vb, rfl, hnb, hsb, hi, hb⟩
  obtain ⟨pb, cb, rfl, hib⟩ := hi.inn
  replace HE := Lib.hid (HE.out.step hb)
  replace Ha := Lib.hid (Ha.out.below hb)
  have Hb := Lib.hid hib
  have HSb := Lib.hid hsb
  clear hi hb hib hsb
  obtain ⟨na, hna⟩ : ∃ n, xs.length = n := ⟨_, rfl⟩
  obtain ⟨nb, hnb⟩ : ∃ n, ys.length = n := ⟨_, rfl⟩
  have hg1 := fun W (h1 : TabV W x T) h2 h3 h4 => agrees7_at x T pa ca xs pb cb ys W h1 HCAP.out h2 h3 (by omega) h4 (by omega)
  have hg2 := fun W (h1 : TabV W x T) h2 h3 h4 => agrees7_at x T p3 cap3 zs3 pa ca xs W h1 HCAP.out h2 h3 HL3.out h4 (by omega)
  have hg3 := fun W (h1 : TabV W x T) h2 h3 h4 => agrees7_at x T pb cb ys p3 cap3 zs3 W h1 HCAP.out h2 h3 (by omega) h4 HL3.out
  rw [hna] at hg1 hg2 ⊢
  rw [hnb] at hg1 hg3 ⊢
  have HNA := Lib.hid hna
  have HG1 := Lib.hid hg1
  have HG2 := Lib.hid hg2
  have HG3 := Lib.hid hg3
  clear hna hnb hg1 hg2 hg3
  go_wp2
  go_loopw [15, 24] (fun _ i wr => ∃ k : Nat, k ≤ na ∧ i = .int .i64 k ∧ Hid (LEnv w g x T wr) ∧ Hid (IntsIn wr pa xs) ∧ Hid (IntsIn wr pb ys)) (fun _ i _ => na - (intOf i).toNat)
  case atStart => exact ⟨0, Nat.zero_le _, rfl, HE, Ha, Hb⟩
  case round =>
    obtain ⟨k, hk, rfl, he, hxa, hxb⟩ := hrel
    by_cases hlt : k < na
    · have hkl : k < xs.length := by rw [HNA.out]; exact hlt
      obtain ⟨b, off, rfl, hck⟩ := hxa.out k hkl
      obtain ⟨c, hc⟩ : ∃ c, xs.getD k 0 = c := ⟨_, rfl⟩
      rw [hc] at hck
      clear hc
      obtain ⟨L, hL⟩ : ∃ L, Hid (oneT T c = L) := ⟨_, rfl⟩
      have HLL : Hid (L.length ≤ 17592186043904) := by unfold Hid; rw [← hL.out]; exact oneT_len _ _
      have HLT : Hid ((L == L) = true) := by simp [Hid]
      have HONE : Hid (∀ W, TabV W x T → Rsv W → Calls Tryz.prog 11 #[x.agg, .int .i64 c] W (NRet L W)) := fun W h1 h2 => dcmOne_at x T c L W h1 h2 hL
      have HRON : Hid (∀ W, TabV W x T → Calls Tryz.prog 12 #[x.agg, .int .i64 c] W (GivesL L W)) := fun W h1 => rone_at x T c L W h1 HCAP.out hL
      go_upto_region 6 with (fail)
      have e0 := he.out.step (drew_one wr)
      have HE0 := Lib.hid e0
      obtain ⟨⟨k0, k1, k2, k3, k4, k5⟩, ⟨k6, k7, k8, k9, k10, k11⟩⟩ := he.out.box.load
      clear e0
      go_region_held3 (boxF g x)
        (first
          | exact HE0.out.box.flat
          | exact (HE0.out.step hb3).box.flat
          | exact ((HE0.out.step hb3).step hb4).box.flat
          | exact (((HE0.out.step hb3).step hb4).step hb5).box.flat)
        (first
          | (go_at_call 11; (with_reducible refine (HONE.out _ HE0.out.tab (HR.out.below HE0.out.bel)).mono ?_); rintro e w3 ⟨v3, rfl, ho3, hb3⟩)
          | (go_at_call 12; (with_reducible refine (HRON.out _ (HE0.out.step hb3).tab).mono ?_); rintro e w4 ⟨p4, m4, c4, rfl, hl4, hm4, hi4, hb4⟩)
          | (go_at_call 10; (with_reducible refine (same_at v3 (.slice p4 m4 c4) L L true _ ((ho3.below hb4).inV HLL.out) (slice_inV hl4 hm4 hi4) HLT).mono ?_); rintro e w5 ⟨rfl, hb5⟩)
          | fail)
      all_goals
        have he2 := Lib.hid (((HE0.out.step hb3).step hb4).step hb5)
        have hxa2 := Lib.hid ((((hxa.out.below (drew_one wr)).below hb3).below hb4).below hb5)
        have hxb2 := Lib.hid ((((hxb.out.below (drew_one wr)).below hb3).below hb4).below hb5)
        clear hb3 hb4 hb5 hck k0 k1 k2 k3 k4 k5 k6 k7 k8 k9 k10 k11 HE0
        go_wp2
        go_roundw
        case rel => exact ⟨k + 1, by omega, by go_num, he2, hxa2, hxb2⟩
        case measure => simp [intOf]; omega
    · obtain rfl : k = na := by omega
      obtain ⟨L, hL⟩ : ∃ L, Hid (oneT T n4 = L) := ⟨_, rfl⟩
      have HLL : Hid (L.length ≤ 17592186043904) := by unfold Hid; rw [← hL.out]; exact oneT_len _ _
      have HLT : Hid ((L == L) = true) := by simp [Hid]
      have HONE : Hid (∀ W, TabV W x T → Rsv W → Calls Tryz.prog 11 #[x.agg, .int .i64 n4] W (NRet L W)) := fun W h1 h2 => dcmOne_at x T n4 L W h1 h2 hL
      have HRON : Hid (∀ W, TabV W x T → Calls Tryz.prog 12 #[x.agg, .int .i64 n4] W (GivesL L W)) := fun W h1 => rone_at x T n4 L W h1 HCAP.out hL
      go_upto_region 9 with (fail)
      have e0 := he.out.step (drew_one wr)
      have HE0 := Lib.hid e0
      have hxa0 := hxa.out.below (drew_one wr)
      have hxb0 := hxb.out.below (drew_one wr)
      have HA0 := Lib.hid hxa0
      have HB0 := Lib.hid hxb0
      obtain ⟨⟨k0, k1, k2, k3, k4, k5⟩, ⟨k6, k7, k8, k9, k10, k11⟩⟩ := he.out.box.load
      clear e0 hxa0 hxb0
      go_region_held3 (boxF g x)
        (first
          | exact HE0.out.box.flat
          | exact (HE0.out.step hb3).box.flat
          | exact ((HE0.out.step hb3).step hb4).box.flat
          | exact (((HE0.out.step hb3).step hb4).step hb5).box.flat
          | exact ((((HE0.out.step hb3).step hb4).step hb5).step hb6).box.flat
          | exact (((((HE0.out.step hb3).step hb4).step hb5).step hb6).step hb7).box.flat
          | exact ((((((HE0.out.step hb3).step hb4).step hb5).step hb6).step hb7).step hb8).box.flat
          | exact (((((((HE0.out.step hb3).step hb4).step hb5).step hb6).step hb7).step hb8).step hb9).box.flat)
        (first
          | (go_at_call 13; (with_reducible refine (awake7_any _ (HR.out.below HE0.out.bel)).mono ?_); rintro e w3 ⟨rfl, hb3⟩)
          | (go_at_call 14; (with_reducible refine (HG1.out _ (HE0.out.step hb3).tab (HR.out.below (HE0.out.step hb3).bel) (HA0.out.below hb3) (HB0.out.below hb3)).mono ?_); rintro e w4 ⟨rfl, hb4⟩)
          | (go_at_call 14; (with_reducible refine (HG2.out _ ((HE0.out.step hb3).step hb4).tab (HR.out.below ((HE0.out.step hb3).step hb4).bel) (HI3.out.below ((HE0.out.step hb3).step hb4).bel) ((HA0.out.below hb3).below hb4)).mono ?_); rintro e w5 ⟨rfl, hb5⟩)
          | (go_at_call 14; (with_reducible refine (HG3.out _ (((HE0.out.step hb3).step hb4).step hb5).tab (HR.out.below (((HE0.out.step hb3).step hb4).step hb5).bel) (((HB0.out.below hb3).below hb4).below hb5) (HI3.out.below (((HE0.out.step hb3).step hb4).step hb5).bel)).mono ?_); rintro e w6 ⟨rfl, hb6⟩)
          | (go_at_call 11; (with_reducible refine (HONE.out _ ((((HE0.out.step hb3).step hb4).step hb5).step hb6).tab (HR.out.below ((((HE0.out.step hb3).step hb4).step hb5).step hb6).bel)).mono ?_); rintro e w7 ⟨v7, rfl, ho7, hb7⟩)
          | (go_at_call 12; (with_reducible refine (HRON.out _ (((((HE0.out.step hb3).step hb4).step hb5).step hb6).step hb7).tab).mono ?_); rintro e w8 ⟨p8, m8, c8, rfl, hl8, hm8, hi8, hb8⟩)
          | (go_at_call 10; (with_reducible refine (same_at v7 (.slice p8 m8 c8) L L true _ ((ho7.below hb8).inV HLL.out) (slice_inV hl8 hm8 hi8) HLT).mono ?_); rintro e w9 ⟨rfl, hb9⟩)
          | fail)
      all_goals
        have HBZ := Lib.hid ((((((((HE0.out.step hb3).step hb4).step hb5).step hb6).step hb7).step hb8).step hb9)).bel
        clear hb3 hb4 hb5 hb6 hb7 hb8 hb9
        go_wp2
        go_ret
        exact ⟨by simp, HBZ.out⟩

end Go.Proofs.YtgekoeobllhnnaaGreatDoor
