/-
  The walk of ValidErrors (genVW.py).
-/
import Derived.Test.YtopaojjodkoidaaGreatDoorSSmPkZZO
import Derived.Test.YtopaojjodkoidaaGreatDoorSSmValR
import Derived.Test.YtopaojjodkoidaaGreatDoorSSmTblQ
import Derived.Test.YtopaojjodkoidaaGreatDoorSSmKeepWordT
import Derived.Test.YtopaojjodkoidaaGreatDoorSSmPkV
import Derived.Deep.RegionHeld3
set_option linter.unusedSimpArgs false
set_option linter.unusedVariables false
namespace Go.Proofs.YtopaojjodkoidaaGreatDoor
open Go.RowKit
theorem made_few17 {T : Tb} (h : Made T) : Few 256 T := few_of_r1 (check_rules h.check).1
structure TwoV (w0 : World) (g : Nat) (x : TV) (T : Tb) (y : TV) (U : Tb) (pa : Option Addr) (xa : List Int) (w : World) : Prop where
 l : LEnv w0 g x T w
 r : Env w0 y U w
 a : IntsIn w pa xa
theorem TwoV.step {w0 w w' : World} {g : Nat} {x y : TV} {T U : Tb} {pa : Option Addr} {xa : List Int} (h : TwoV w0 g x T y U pa xa w) (hb : Below w.heap.size w w') : TwoV w0 g x T y U pa xa w' := ⟨h.l.step hb, h.r.step hb, h.a.below hb⟩
abbrev boxesV (g : Nat) (x : TV) (h : Nat) (y : TV) (w : World) : Prop := boxF g x w ∧ boxF h y w
theorem TwoV.flat {w0 w : World} {g : Nat} {x y : TV} {T U : Tb} {pa : Option Addr} {xa : List Int} (h : TwoV w0 g x T y U pa xa w) : boxesV g x w0.heap.size y w := ⟨h.l.box.flat, h.r.box.flat⟩
set_option maxRecDepth 100000 in
set_option maxHeartbeats 8000000 in
theorem validErrors_walk (p0 : Option Addr) (cap0 : Nat) (zs0 : List Int) (p1 : Option Addr) (cap1 : Nat) (zs1 : List Int) (n2 : Int) (n3 : Int) (n4 : Int) (y : TV) (U : Tb) (w : World) (hin0 : IntsIn w p0 zs0) (hl0 : zs0.length ≤ 17592186043904) (hin1 : IntsIn w p1 zs1) (hl1 : zs1.length ≤ 17592186043904) (hy : TabV w y U) (hyc : ∀ p n c, y.a9 = .slice p n c → n ≤ c) (hr : Rsv w) :
 Calls Tryz.prog 4 #[.slice p0 zs0.length cap0, .slice p1 zs1.length cap1, .int .i64 n2, .int .i64 n3, .int .i64 n4, y.agg] w (Gives (.bool true) w) := by
 have HI0 := Lib.hid hin0
 have HL0 := Lib.hid hl0
 have HI1 := Lib.hid hin1
 have HL1 := Lib.hid hl1
 have HR := Lib.hid hr
 clear hin0 hl0 hin1 hl1 hr
 have HYC : Hid (CapOf y) := hyc
 have HE := Lib.hid (Env.new hy)
 clear hy hyc
 simp only [TV.agg]
 go_enter Tryz.func4, Tryz.ntmps4
 go_wp2_with fail
 refine (tables_any p0 cap0 zs0 _ (HI0.out.below HE.out.bel) HL0.out).mono ?_
 rintro e w1 ⟨x1, T1, rfl, ht1, hm1, hc1, hb⟩
 replace HE := Lib.hid (HE.out.step hb)
 have HT1 := Lib.hid ht1
 have HF1 := Lib.hid (made_few17 hm1)
 have HC1 : Hid (CapOf x1) := hc1
 clear hb ht1 hm1 hc1
 go_wp2_with fail
 refine (other_any x1 T1 256 n2 n3 n4 _ HT1.out HF1.out (by omega)).mono ?_
 rintro e w2 ⟨⟨a0, a1, a2, a3, a4, a5, a6, a7, a8, a9, a10, a11⟩, T, rfl, htv, hf2, hc2, hb⟩
 obtain ⟨pa0, na0, qa0, hsl0⟩ : Slc a0 := htv.cat.slc
 subst hsl0
 obtain ⟨pa1, na1, qa1, hsl1⟩ : Slc a1 := htv.cls.slc
 subst hsl1
 obtain ⟨pa2, na2, qa2, hsl2⟩ : Slc a2 := htv.joi.slc
 subst hsl2
 obtain ⟨pa3, na3, qa3, hsl3⟩ : Slc a3 := htv.bid.slc
 subst hsl3
 obtain ⟨pa4, na4, qa4, hsl4⟩ : Slc a4 := htv.scr.slc
 subst hsl4
 obtain ⟨pa5, na5, qa5, hsl5⟩ : Slc a5 := htv.sta.slc
 subst hsl5
 obtain ⟨pa6, na6, qa6, hsl6⟩ : Slc a6 := htv.ign.slc
 subst hsl6
 obtain ⟨pa7, na7, qa7, hsl7⟩ : Slc a7 := htv.ext.slc
 subst hsl7
 obtain ⟨pa8, na8, qa8, hsl8⟩ : Slc a8 := htv.map.slc
 subst hsl8
 obtain ⟨pa9, na9, qa9, hsl9⟩ : Slc a9 := htv.dec.slc
 subst hsl9
 obtain ⟨pa10, na10, qa10, hsl10⟩ : Slc a10 := htv.exc.slc
 subst hsl10
 obtain ⟨pa11, na11, qa11, hsl11⟩ : Slc a11 := htv.pro.slc
 subst hsl11
 have hba1 : Below w2.heap.size w2 (w2.alloc (.cells (tabCells ⟨.slice pa0 na0 qa0, .slice pa1 na1 qa1, .slice pa2 na2 qa2, .slice pa3 na3 qa3, .slice pa4 na4 qa4, .slice pa5 na5 qa5, .slice pa6 na6 qa6, .slice pa7 na7 qa7, .slice pa8 na8 qa8, .slice pa9 na9 qa9, .slice pa10 na10 qa10, .slice pa11 na11 qa11⟩) 26)) := (Below.refl _ _).alloc (Nat.le_refl _) _
 have HT2 : Hid (TabV (w2.alloc (.cells (tabCells ⟨.slice pa0 na0 qa0, .slice pa1 na1 qa1, .slice pa2 na2 qa2, .slice pa3 na3 qa3, .slice pa4 na4 qa4, .slice pa5 na5 qa5, .slice pa6 na6 qa6, .slice pa7 na7 qa7, .slice pa8 na8 qa8, .slice pa9 na9 qa9, .slice pa10 na10 qa10, .slice pa11 na11 qa11⟩) 26)) ⟨.slice pa0 na0 qa0, .slice pa1 na1 qa1, .slice pa2 na2 qa2, .slice pa3 na3 qa3, .slice pa4 na4 qa4, .slice pa5 na5 qa5, .slice pa6 na6 qa6, .slice pa7 na7 qa7, .slice pa8 na8 qa8, .slice pa9 na9 qa9, .slice pa10 na10 qa10, .slice pa11 na11 qa11⟩ T) := htv.below hba1
 have HX2 : Hid (BoxT (w2.alloc (.cells (tabCells ⟨.slice pa0 na0 qa0, .slice pa1 na1 qa1, .slice pa2 na2 qa2, .slice pa3 na3 qa3, .slice pa4 na4 qa4, .slice pa5 na5 qa5, .slice pa6 na6 qa6, .slice pa7 na7 qa7, .slice pa8 na8 qa8, .slice pa9 na9 qa9, .slice pa10 na10 qa10, .slice pa11 na11 qa11⟩) 26)) w2.heap.size ⟨.slice pa0 na0 qa0, .slice pa1 na1 qa1, .slice pa2 na2 qa2, .slice pa3 na3 qa3, .slice pa4 na4 qa4, .slice pa5 na5 qa5, .slice pa6 na6 qa6, .slice pa7 na7 qa7, .slice pa8 na8 qa8, .slice pa9 na9 qa9, .slice pa10 na10 qa10, .slice pa11 na11 qa11⟩) := BoxT.new _ _ _
 have hE2 : Env w y U (w2.alloc (.cells (tabCells ⟨.slice pa0 na0 qa0, .slice pa1 na1 qa1, .slice pa2 na2 qa2, .slice pa3 na3 qa3, .slice pa4 na4 qa4, .slice pa5 na5 qa5, .slice pa6 na6 qa6, .slice pa7 na7 qa7, .slice pa8 na8 qa8, .slice pa9 na9 qa9, .slice pa10 na10 qa10, .slice pa11 na11 qa11⟩) 26)) := (HE.out.step hb).step hba1
 have HB2 : Hid (Below w.heap.size w (w2.alloc (.cells (tabCells ⟨.slice pa0 na0 qa0, .slice pa1 na1 qa1, .slice pa2 na2 qa2, .slice pa3 na3 qa3, .slice pa4 na4 qa4, .slice pa5 na5 qa5, .slice pa6 na6 qa6, .slice pa7 na7 qa7, .slice pa8 na8 qa8, .slice pa9 na9 qa9, .slice pa10 na10 qa10, .slice pa11 na11 qa11⟩) 26))) := hE2.bel
 have HEE := Lib.hid hE2
 have HCAP : Hid (CapOf ⟨.slice pa0 na0 qa0, .slice pa1 na1 qa1, .slice pa2 na2 qa2, .slice pa3 na3 qa3, .slice pa4 na4 qa4, .slice pa5 na5 qa5, .slice pa6 na6 qa6, .slice pa7 na7 qa7, .slice pa8 na8 qa8, .slice pa9 na9 qa9, .slice pa10 na10 qa10, .slice pa11 na11 qa11⟩) := hc2 HC1.out
 clear htv hf2 hc2 hb hba1 hE2 HE HT1 HF1 HC1
 simp only [tabCells] at HT2 HX2 HB2 HEE
 go_wp2_with fail
 generalize (w2.alloc (.cells #[.slice pa0 na0 qa0, .slice pa1 na1 qa1, .slice pa2 na2 qa2, .slice pa3 na3 qa3, .slice pa4 na4 qa4, .slice pa5 na5 qa5, .slice pa6 na6 qa6, .slice pa7 na7 qa7, .slice pa8 na8 qa8, .slice pa9 na9 qa9, .slice pa10 na10 qa10, .slice pa11 na11 qa11] 26)) = W at HT2 HX2 HB2 HEE ⊢
 generalize w2.heap.size = g at HX2 ⊢
 generalize (⟨.slice pa0 na0 qa0, .slice pa1 na1 qa1, .slice pa2 na2 qa2, .slice pa3 na3 qa3, .slice pa4 na4 qa4, .slice pa5 na5 qa5, .slice pa6 na6 qa6, .slice pa7 na7 qa7, .slice pa8 na8 qa8, .slice pa9 na9 qa9, .slice pa10 na10 qa10, .slice pa11 na11 qa11⟩ : TV) = x at HT2 HX2 HCAP
 obtain ⟨xa, hXa⟩ : ∃ m, Hid (wordF zs1 = m) := ⟨_, rfl⟩
 have hna : xa.length ≤ 6 := by have := (wordF_len zs1).2; rwa [hXa.out] at this
 refine (kwordsN_at p1 zs1.length cap1 zs1 xa _ (HI1.out.below HEE.out.bel) (Lib.hid rfl) HL1.out hXa).mono ?_
 rintro e wa ⟨va, rfl, hi, hb⟩
 obtain ⟨pa, ca, rfl, hia⟩ := hi.inn
 have HE : Hid (TwoV w g x T y U pa xa wa) := ⟨(⟨HT2.out, HX2.out, HB2.out⟩ : LEnv w g x T W).step hb, HEE.out.step hb, hia⟩
 clear hi hb hia hXa HT2 HX2 HB2 HEE
 obtain ⟨Va, hVa⟩ : ∃ V, Hid (valR T xa = V) := ⟨_, rfl⟩
 have hv1a := fun W (h1 : TabV W x T) h2 h3 => vchk_at x T pa ca xa Va W h1 h2 h3 (by omega) hVa
 have hv2a := fun W (h1 : TabV W x T) h3 => rchk_at x T pa ca xa Va W h1 HCAP.out h3 (by omega) hVa
 have na : (Va == Va) = true := by simp
 obtain ⟨Vb, hVb⟩ : ∃ V, Hid (valR U xa = V) := ⟨_, rfl⟩
 have hv1b := fun W (h1 : TabV W y U) h2 h3 => vchk_at y U pa ca xa Vb W h1 h2 h3 (by omega) hVb
 have hv2b := fun W (h1 : TabV W y U) h3 => rchk_at y U pa ca xa Vb W h1 HYC.out h3 (by omega) hVb
 have nb : (Vb == Vb) = true := by simp
 obtain ⟨Vc, hVc⟩ : ∃ V, Hid (valR U zs1 = V) := ⟨_, rfl⟩
 have hv1c := fun W (h1 : TabV W y U) h2 h3 => vchk_at y U p1 cap1 zs1 Vc W h1 h2 h3 (HL1.out) hVc
 have hv2c := fun W (h1 : TabV W y U) h3 => rchk_at y U p1 cap1 zs1 Vc W h1 HYC.out h3 (HL1.out) hVc
 have nc : (Vc == Vc) = true := by simp
 obtain ⟨na, hna3⟩ : ∃ n, xa.length = n := ⟨_, rfl⟩
 obtain ⟨nc, hnc3⟩ : ∃ n, zs1.length = n := ⟨_, rfl⟩
 rw [hna3] at hv1a hv2a hv1b hv2b
 rw [hnc3] at hv1c hv2c
 rw [hna3, hnc3]
 have HV1a := Lib.hid hv1a
 have HV2a := Lib.hid hv2a
 have HV1b := Lib.hid hv1b
 have HV2b := Lib.hid hv2b
 have HV1c := Lib.hid hv1c
 have HV2c := Lib.hid hv2c
 clear hv1a hv2a hv1b hv2b hv1c hv2c hna3 hnc3 hna hVa hVb hVc
 go_upto_region 3 with (fail)
 have e0 := HE.out.step (drew_one wa)
 have HE0 := Lib.hid e0
 clear e0
 obtain ⟨⟨k0, k1, k2, k3, k4, k5⟩, ⟨k6, k7, k8, k9, k10, k11⟩⟩ := HE.out.l.box.load
 obtain ⟨⟨l0, l1, l2, l3, l4, l5⟩, ⟨l6, l7, l8, l9, l10, l11⟩⟩ := HE.out.r.box.load
 go_region_held3 (boxesV g x w.heap.size y)
  (first
   | exact HE0.out.flat
   | exact (HE0.out.step hb3).flat
   | exact ((HE0.out.step hb3).step hb4).flat
   | exact (((HE0.out.step hb3).step hb4).step hb5).flat
   | exact ((((HE0.out.step hb3).step hb4).step hb5).step hb6).flat
   | exact (((((HE0.out.step hb3).step hb4).step hb5).step hb6).step hb7).flat
   | exact ((((((HE0.out.step hb3).step hb4).step hb5).step hb6).step hb7).step hb8).flat
   | exact (((((((HE0.out.step hb3).step hb4).step hb5).step hb6).step hb7).step hb8).step hb9).flat)
  (first
   | (go_at_call 12; (with_reducible refine (awake17_any _ (HR.out.below HE0.out.l.bel)).mono ?_); rintro e w3 ⟨rfl, hb3⟩)
   | (go_at_call 13; (with_reducible refine (HV1a.out _ (HE0.out.step hb3).l.tab (HR.out.below (HE0.out.step hb3).l.bel) (HE0.out.step hb3).a).mono ?_); rintro e w4 ⟨rfl, hb4⟩)
   | (go_at_call 14; (with_reducible refine (HV2a.out _ ((HE0.out.step hb3).step hb4).l.tab ((HE0.out.step hb3).step hb4).a).mono ?_); rintro e w5 ⟨rfl, hb5⟩)
   | (go_at_call 13; (with_reducible refine (HV1b.out _ (((HE0.out.step hb3).step hb4).step hb5).r.tab (HR.out.below (((HE0.out.step hb3).step hb4).step hb5).l.bel) (((HE0.out.step hb3).step hb4).step hb5).a).mono ?_); rintro e w6 ⟨rfl, hb6⟩)
   | (go_at_call 14; (with_reducible refine (HV2b.out _ ((((HE0.out.step hb3).step hb4).step hb5).step hb6).r.tab ((((HE0.out.step hb3).step hb4).step hb5).step hb6).a).mono ?_); rintro e w7 ⟨rfl, hb7⟩)
   | (go_at_call 13; (with_reducible refine (HV1c.out _ (((((HE0.out.step hb3).step hb4).step hb5).step hb6).step hb7).r.tab (HR.out.below (((((HE0.out.step hb3).step hb4).step hb5).step hb6).step hb7).l.bel) (HI1.out.below (((((HE0.out.step hb3).step hb4).step hb5).step hb6).step hb7).l.bel)).mono ?_); rintro e w8 ⟨rfl, hb8⟩)
   | (go_at_call 14; (with_reducible refine (HV2c.out _ ((((((HE0.out.step hb3).step hb4).step hb5).step hb6).step hb7).step hb8).r.tab (HI1.out.below ((((((HE0.out.step hb3).step hb4).step hb5).step hb6).step hb7).step hb8).l.bel)).mono ?_); rintro e w9 ⟨rfl, hb9⟩)
   | fail)
 all_goals
  have HBZ := Lib.hid ((((((((HE0.out.step hb3).step hb4).step hb5).step hb6).step hb7).step hb8).step hb9)).l.bel
  clear hb3 hb4 hb5 hb6 hb7 hb8 hb9
  go_wp2
  go_ret
  exact ⟨by simp, HBZ.out⟩
end Go.Proofs.YtopaojjodkoidaaGreatDoor
