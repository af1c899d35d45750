/-
  The walk of BidiOrder (genBL.py).
-/
import Derived.Test.YtiafhifbgdkgaaaGreatDoorPkZZM
import Derived.Test.YtiafhifbgdkgaaaGreatDoorPkZZN
set_option linter.unusedSimpArgs false
set_option linter.unusedVariables false
namespace Go.Proofs.YtiafhifbgdkgaaaGreatDoor
open Go.RowKit
set_option linter.unusedVariables false

theorem bo_any3 (q : List Int → Bool) (a b c : List Int) : [a, b, c].any q = (q a || q b || q c) := by simp [List.any_cons, Bool.or_assoc]

set_option maxRecDepth 100000 in
set_option maxHeartbeats 8000000 in
theorem bidiOrder_walk (p0 : Option Addr) (cap0 : Nat) (zs0 : List Int) (p1 : Option Addr) (cap1 : Nat) (zs1 : List Int) (p2 : Option Addr) (cap2 : Nat) (zs2 : List Int) (p3 : Option Addr) (cap3 : Nat) (zs3 : List Int) (w : World) (hin0 : IntsIn w p0 zs0) (hl0 : zs0.length ≤ 17592186043904) (hin1 : IntsIn w p1 zs1) (hl1 : zs1.length ≤ 17592186043904) (hin2 : IntsIn w p2 zs2) (hl2 : zs2.length ≤ 17592186043904) (hin3 : IntsIn w p3 zs3) (hl3 : zs3.length ≤ 17592186043904) (hr : Rsv w) :
    Calls Tryz.prog 4 #[.slice p0 zs0.length cap0, .slice p1 zs1.length cap1, .slice p2 zs2.length cap2, .slice p3 zs3.length cap3] w (Gives (.bool true) w) := by
  have HI0 := Lib.hid hin0
  have HL0 := Lib.hid hl0
  have HI1 := Lib.hid hin1
  have HL1 := Lib.hid hl1
  have HI2 := Lib.hid hin2
  have HL2 := Lib.hid hl2
  have HI3 := Lib.hid hin3
  have HL3 := Lib.hid hl3
  have HR := Lib.hid hr
  clear hin0 hl0 hin1 hl1 hin2 hl2 hin3 hl3 hr
  go_enter Tryz.func4, Tryz.ntmps4
  go_wp2_with fail
  refine (tables_any p0 cap0 zs0 _ HI0.out HL0.out).mono ?_
  rintro e w1 ⟨⟨a0, a1, a2, a3, a4, a5, a6, a7, a8, a9, a10, a11⟩, T, rfl, htv, hm, hcap1, hb1⟩
  obtain ⟨pa0, na0, qa0, hsl0⟩ : Slc a0 := htv.cat.slc
  subst hsl0
  obtain ⟨pa1, na1, qa1, hsl1⟩ : Slc a1 := htv.cls.slc
  subst hsl1
  obtain ⟨pa2, na2, qa2, hsl2⟩ : Slc a2 := htv.joi.slc
  subst hsl2
  obtain ⟨pa3, na3, qa3, hsl3⟩ : Slc a3 := htv.bid.slc
  subst hsl3
  obtain ⟨pa4, na4, qa4, hsl4⟩ : Slc a4 := htv.scr.slc
  subst hsl4
  obtain ⟨pa5, na5, qa5, hsl5⟩ : Slc a5 := htv.sta.slc
  subst hsl5
  obtain ⟨pa6, na6, qa6, hsl6⟩ : Slc a6 := htv.ign.slc
  subst hsl6
  obtain ⟨pa7, na7, qa7, hsl7⟩ : Slc a7 := htv.ext.slc
  subst hsl7
  obtain ⟨pa8, na8, qa8, hsl8⟩ : Slc a8 := htv.map.slc
  subst hsl8
  obtain ⟨pa9, na9, qa9, hsl9⟩ : Slc a9 := htv.dec.slc
  subst hsl9
  obtain ⟨pa10, na10, qa10, hsl10⟩ : Slc a10 := htv.exc.slc
  subst hsl10
  obtain ⟨pa11, na11, qa11, hsl11⟩ : Slc a11 := htv.pro.slc
  subst hsl11
  have hba1 : Below w1.heap.size w1 (w1.alloc (.cells (tabCells ⟨.slice pa0 na0 qa0, .slice pa1 na1 qa1, .slice pa2 na2 qa2, .slice pa3 na3 qa3, .slice pa4 na4 qa4, .slice pa5 na5 qa5, .slice pa6 na6 qa6, .slice pa7 na7 qa7, .slice pa8 na8 qa8, .slice pa9 na9 qa9, .slice pa10 na10 qa10, .slice pa11 na11 qa11⟩) 26)) := (Below.refl _ _).alloc (Nat.le_refl _) _
  have HT1 : Hid (TabV (w1.alloc (.cells (tabCells ⟨.slice pa0 na0 qa0, .slice pa1 na1 qa1, .slice pa2 na2 qa2, .slice pa3 na3 qa3, .slice pa4 na4 qa4, .slice pa5 na5 qa5, .slice pa6 na6 qa6, .slice pa7 na7 qa7, .slice pa8 na8 qa8, .slice pa9 na9 qa9, .slice pa10 na10 qa10, .slice pa11 na11 qa11⟩) 26)) ⟨.slice pa0 na0 qa0, .slice pa1 na1 qa1, .slice pa2 na2 qa2, .slice pa3 na3 qa3, .slice pa4 na4 qa4, .slice pa5 na5 qa5, .slice pa6 na6 qa6, .slice pa7 na7 qa7, .slice pa8 na8 qa8, .slice pa9 na9 qa9, .slice pa10 na10 qa10, .slice pa11 na11 qa11⟩ T) := htv.below hba1
  have HX1 : Hid (BoxT (w1.alloc (.cells (tabCells ⟨.slice pa0 na0 qa0, .slice pa1 na1 qa1, .slice pa2 na2 qa2, .slice pa3 na3 qa3, .slice pa4 na4 qa4, .slice pa5 na5 qa5, .slice pa6 na6 qa6, .slice pa7 na7 qa7, .slice pa8 na8 qa8, .slice pa9 na9 qa9, .slice pa10 na10 qa10, .slice pa11 na11 qa11⟩) 26)) w1.heap.size ⟨.slice pa0 na0 qa0, .slice pa1 na1 qa1, .slice pa2 na2 qa2, .slice pa3 na3 qa3, .slice pa4 na4 qa4, .slice pa5 na5 qa5, .slice pa6 na6 qa6, .slice pa7 na7 qa7, .slice pa8 na8 qa8, .slice pa9 na9 qa9, .slice pa10 na10 qa10, .slice pa11 na11 qa11⟩) := BoxT.new _ _ _
  have HB1 : Hid (Below w.heap.size w (w1.alloc (.cells (tabCells ⟨.slice pa0 na0 qa0, .slice pa1 na1 qa1, .slice pa2 na2 qa2, .slice pa3 na3 qa3, .slice pa4 na4 qa4, .slice pa5 na5 qa5, .slice pa6 na6 qa6, .slice pa7 na7 qa7, .slice pa8 na8 qa8, .slice pa9 na9 qa9, .slice pa10 na10 qa10, .slice pa11 na11 qa11⟩) 26))) := hb1.trans (hba1.mono hb1.size)
  have HM := Lib.hid hm
  have HCAP : Hid (CapOf ⟨.slice pa0 na0 qa0, .slice pa1 na1 qa1, .slice pa2 na2 qa2, .slice pa3 na3 qa3, .slice pa4 na4 qa4, .slice pa5 na5 qa5, .slice pa6 na6 qa6, .slice pa7 na7 qa7, .slice pa8 na8 qa8, .slice pa9 na9 qa9, .slice pa10 na10 qa10, .slice pa11 na11 qa11⟩) := hcap1
  clear htv hm hcap1 hb1 hba1
  simp only [tabCells] at HT1 HX1 HB1
  go_wp2_with fail
  generalize (w1.alloc (.cells #[.slice pa0 na0 qa0, .slice pa1 na1 qa1, .slice pa2 na2 qa2, .slice pa3 na3 qa3, .slice pa4 na4 qa4, .slice pa5 na5 qa5, .slice pa6 na6 qa6, .slice pa7 na7 qa7, .slice pa8 na8 qa8, .slice pa9 na9 qa9, .slice pa10 na10 qa10, .slice pa11 na11 qa11] 26)) = W at HT1 HX1 HB1 ⊢
  generalize w1.heap.size = g at HX1 ⊢
  generalize (⟨.slice pa0 na0 qa0, .slice pa1 na1 qa1, .slice pa2 na2 qa2, .slice pa3 na3 qa3, .slice pa4 na4 qa4, .slice pa5 na5 qa5, .slice pa6 na6 qa6, .slice pa7 na7 qa7, .slice pa8 na8 qa8, .slice pa9 na9 qa9, .slice pa10 na10 qa10, .slice pa11 na11 qa11⟩ : TV) = x at HT1 HX1 HCAP
  have HE : Hid (LEnv w g x T W) := ⟨HT1.out, HX1.out, HB1.out⟩
  clear HT1 HX1 HB1
  refine (mixed_any p1 cap1 zs1 _ (HI1.out.below HE.out.bel) HL1.out).mono ?_
  rintro e wa ⟨xa, va, rfl, hna, hsa, hi, hb⟩
  obtain ⟨pa, ca, rfl, hia, hcpa⟩ := ints_capL hi
  replace HE := Lib.hid (HE.out.step hb)
  have Ha := Lib.hid hia
  have HSa := Lib.hid hsa
  clear hi hb hia hsa
  go_wp2_with fail
  refine (mixed_any p2 cap2 zs2 _ (HI2.out.below HE.out.bel) HL2.out).mono ?_
  rintro e wb ⟨xb, vb, rfl, hnb, hsb, hi, hb⟩
  obtain ⟨pb, cb, rfl, hib, hcpb⟩ := ints_capL hi
  replace HE := Lib.hid (HE.out.step hb)
  replace Ha := Lib.hid (Ha.out.below hb)
  have Hb := Lib.hid hib
  have HSb := Lib.hid hsb
  clear hi hb hib hsb
  go_wp2_with fail
  refine (mixed_any p3 cap3 zs3 _ (HI3.out.below HE.out.bel) HL3.out).mono ?_
  rintro e wc ⟨xc, vc, rfl, hnc, hsc, hi, hb⟩
  obtain ⟨pc, cc, rfl, hic, hcpc⟩ := ints_capL hi
  replace HE := Lib.hid (HE.out.step hb)
  replace Ha := Lib.hid (Ha.out.below hb)
  replace Hb := Lib.hid (Hb.out.below hb)
  have Hc := Lib.hid hic
  have HSc := Lib.hid hsc
  clear hi hb hic hsc
  have haa : accE T xa = 0 := accE_zero HM.out.check (by omega) HSa.out
  have hab : accE T xb = 0 := accE_zero HM.out.check (by omega) HSb.out
  have hac : accE T xc = 0 := accE_zero HM.out.check (by omega) HSc.out
  obtain ⟨G, hG⟩ : ∃ G, (rtlT T xa || rtlT T xb || rtlT T xc) = G := ⟨_, rfl⟩
  obtain ⟨V, hV⟩ : ∃ V, (decide (ruleT T xa ≠ 0) || decide (ruleT T xb ≠ 0) || decide (ruleT T xc ≠ 0)) = V := ⟨_, rfl⟩
  obtain ⟨W0, hW0⟩ : ∃ W : Int, (if G = true ∧ V = true then 19 else 0) = W := ⟨_, rfl⟩
  have hd1 : (domR T [xa, xb, xc]).2 = W0 := by
    rw [domR_err (by intro l hl; simp at hl; rcases hl with rfl | rfl | rfl <;> assumption), bo_any3, bo_any3, hG, hV, hW0]
  have hd2 : (domR T [xc, xa, xb]).2 = W0 := by
    rw [domR_err (by intro l hl; simp at hl; rcases hl with rfl | rfl | rfl <;> assumption), bo_any3, bo_any3, ← hW0, ← hG, ← hV]
    congr 1
    cases rtlT T xa <;> cases rtlT T xb <;> cases rtlT T xc <;> cases decide (ruleT T xa ≠ 0) <;> cases decide (ruleT T xb ≠ 0) <;> cases decide (ruleT T xc ≠ 0) <;> rfl
  have hd3 : (domR T [xb, xa, xc]).2 = W0 := by
    rw [domR_err (by intro l hl; simp at hl; rcases hl with rfl | rfl | rfl <;> assumption), bo_any3, bo_any3, ← hW0, ← hG, ← hV]
    congr 1
    cases rtlT T xa <;> cases rtlT T xb <;> cases rtlT T xc <;> cases decide (ruleT T xa ≠ 0) <;> cases decide (ruleT T xb ≠ 0) <;> cases decide (ruleT T xc ≠ 0) <;> rfl
  obtain ⟨K1, E1, hD1⟩ : ∃ K E, Hid (domR T [xa, xb, xc] = (K, E)) := ⟨_, _, rfl⟩
  obtain ⟨K2, E2, hD2⟩ : ∃ K E, Hid (domR T [xc, xa, xb] = (K, E)) := ⟨_, _, rfl⟩
  obtain ⟨K3, E3, hD3⟩ : ∃ K E, Hid (domR T [xb, xa, xc] = (K, E)) := ⟨_, _, rfl⟩
  rw [hD1.out] at hd1
  rw [hD2.out] at hd2
  rw [hD3.out] at hd3
  have he1 : E1 = W0 := hd1
  have he2 : E2 = W0 := hd2
  have he3 : E3 = W0 := hd3
  clear hd1 hd2 hd3
  subst he1
  subst he2
  subst he3
  have hll : ∀ (u v z : List Int), u.length ≤ 10 → v.length ≤ 10 → z.length ≤ 10 → ∀ l ∈ [u, v, z], l.length ≤ 17592186043904 := by intro u v z h1 h2 h3 l hl; simp at hl; rcases hl with rfl | rfl | rfl <;> omega
  have ho1 := fun q W (h1 : TabV W x T) h2 h3 => bdom_at x T q 3 3 [xa, xb, xc] K1 E3 W h1 h2 h3 rfl (by omega) (hll xa xb xc hna hnb hnc) hD1
  have ho2 := fun q W (h1 : TabV W x T) h2 h3 => bdom_at x T q 3 3 [xc, xa, xb] K2 E3 W h1 h2 h3 rfl (by omega) (hll xc xa xb hnc hna hnb) hD2
  have ho3 := fun q W (h1 : TabV W x T) h2 h3 => bdom_at x T q 3 3 [xb, xa, xc] K3 E3 W h1 h2 h3 rfl (by omega) (hll xb xa xc hnb hna hnc) hD3
  obtain ⟨Ga, hGa⟩ : ∃ B, rtlT T xa = B := ⟨_, rfl⟩
  obtain ⟨Gb, hGb⟩ : ∃ B, rtlT T xb = B := ⟨_, rfl⟩
  obtain ⟨Gc, hGc⟩ : ∃ B, rtlT T xc = B := ⟨_, rfl⟩
  have hra : Hid (rtlR T xa = Ga) := by unfold Hid rtlR; rw [decide_eq_true haa, Bool.true_and, hGa]
  have hrb : Hid (rtlR T xb = Gb) := by unfold Hid rtlR; rw [decide_eq_true hab, Bool.true_and, hGb]
  have hrc : Hid (rtlR T xc = Gc) := by unfold Hid rtlR; rw [decide_eq_true hac, Bool.true_and, hGc]
  obtain ⟨za, hza⟩ : ∃ B, ruleT T xa = B := ⟨_, rfl⟩
  obtain ⟨zb, hzb⟩ : ∃ B, ruleT T xb = B := ⟨_, rfl⟩
  obtain ⟨zc, hzc⟩ : ∃ B, ruleT T xc = B := ⟨_, rfl⟩
  have bza := rule_bd T xa
  have bzb := rule_bd T xb
  have bzc := rule_bd T xc
  have hua : Hid (rulR T xa = (za, 0)) := by unfold Hid rulR; rw [if_neg (by omega), hza]
  have hub : Hid (rulR T xb = (zb, 0)) := by unfold Hid rulR; rw [if_neg (by omega), hzb]
  have huc : Hid (rulR T xc = (zc, 0)) := by unfold Hid rulR; rw [if_neg (by omega), hzc]
  rw [hza] at bza hV
  rw [hzb] at bzb hV
  rw [hzc] at bzc hV
  rw [hGa, hGb, hGc] at hG
  have hfa := fun W (h1 : TabV W x T) h3 => rrtl_at x T pa ca xa Ga W h1 HCAP.out h3 (by omega) hra
  have hfb := fun W (h1 : TabV W x T) h3 => rrtl_at x T pb cb xb Gb W h1 HCAP.out h3 (by omega) hrb
  have hfc := fun W (h1 : TabV W x T) h3 => rrtl_at x T pc cc xc Gc W h1 HCAP.out h3 (by omega) hrc
  have hla := fun W (h1 : TabV W x T) h3 => rrule_at x T pa ca xa za 0 W h1 HCAP.out h3 (by omega) hua
  have hlb := fun W (h1 : TabV W x T) h3 => rrule_at x T pb cb xb zb 0 W h1 HCAP.out h3 (by omega) hub
  have hlc := fun W (h1 : TabV W x T) h3 => rrule_at x T pc cc xc zc 0 W h1 HCAP.out h3 (by omega) huc
  have HO1 := Lib.hid ho1
  have HO2 := Lib.hid ho2
  have HO3 := Lib.hid ho3
  have HFA := Lib.hid hfa
  have HFB := Lib.hid hfb
  have HFC := Lib.hid hfc
  have HLA := Lib.hid hla
  have HLB := Lib.hid hlb
  have HLC := Lib.hid hlc
  have HGG := Lib.hid hG
  have HVV := Lib.hid hV
  have HWW := Lib.hid hW0
  obtain ⟨bza0, bza6⟩ := bza
  obtain ⟨bzb0, bzb6⟩ := bzb
  obtain ⟨bzc0, bzc6⟩ := bzc
  have HCA := Lib.hid hcpa
  have HCB := Lib.hid hcpb
  have HCC := Lib.hid hcpc
  clear haa hab hac hll ho1 ho2 ho3 hGa hGb hGc hra hrb hrc hza hzb hzc hua hub huc hfa hfb hfc hla hlb hlc hG hV hW0 hD1 hD2 hD3 hcpa hcpb hcpc
  obtain ⟨⟨k0, k1, k2, k3, k4, k5⟩, ⟨k6, k7, k8, k9, k10, k11⟩⟩ := HE.out.box.load
  have HI := Lib.hid (ls3 (t := 22) Ha.out HCA.out Hb.out HCB.out Hc.out HCC.out)
  have HEA := Lib.hid (HE.out.step ((Below.refl wc.heap.size wc).alloc (Nat.le_refl _) (.cells #[.slice pa xa.length ca, .slice pb xb.length cb, .slice pc xc.length cc] 22)))
  go_wp2_with fail
  refine (HO1.out _ _ HEA.out.tab (HR.out.below HEA.out.bel) HI.out).mono ?_
  rintro e w1 ⟨rfl, hb⟩
  have hbe := ((Below.refl wc.heap.size wc).alloc (Nat.le_refl _) (.cells #[.slice pa xa.length ca, .slice pb xb.length cb, .slice pc xc.length cc] 22)).trans (hb.mono (by simp))
  replace HE := Lib.hid (HE.out.step hbe)
  replace Ha := Lib.hid (Ha.out.below hbe)
  replace Hb := Lib.hid (Hb.out.below hbe)
  replace Hc := Lib.hid (Hc.out.below hbe)
  clear hb hbe HI HEA k0 k1 k2 k3 k4 k5 k6 k7 k8 k9 k10 k11
  go_upto_region 5 with (fail)
  go_cut [16] (fun v wx => v = .bool G ∧ Hid (LEnv w g x T wx) ∧ Hid (IntsIn wx pa xa) ∧ Hid (IntsIn wx pb xb) ∧ Hid (IntsIn wx pc xc))
  case first =>
    obtain ⟨⟨k0, k1, k2, k3, k4, k5⟩, ⟨k6, k7, k8, k9, k10, k11⟩⟩ := HE.out.box.load
    go_wp2_with fail
    refine (HFA.out _ HE.out.tab Ha.out).mono ?_
    rintro e w2 ⟨rfl, hb⟩
    replace HE := Lib.hid (HE.out.step hb)
    replace Ha := Lib.hid (Ha.out.below hb)
    replace Hb := Lib.hid (Hb.out.below hb)
    replace Hc := Lib.hid (Hc.out.below hb)
    clear hb k0 k1 k2 k3 k4 k5 k6 k7 k8 k9 k10 k11
    cases Ga with
    | true =>
      have hg : G = true := by rw [← HGG.out]; rfl
      subst hg
      go_wp2_with fail
      go_meet
      exact ⟨rfl, HE, Ha, Hb, Hc⟩
    | false =>
      obtain ⟨⟨k0, k1, k2, k3, k4, k5⟩, ⟨k6, k7, k8, k9, k10, k11⟩⟩ := HE.out.box.load
      go_wp2_with fail
      refine (HFB.out _ HE.out.tab Hb.out).mono ?_
      rintro e w3 ⟨rfl, hb⟩
      replace HE := Lib.hid (HE.out.step hb)
      replace Ha := Lib.hid (Ha.out.below hb)
      replace Hb := Lib.hid (Hb.out.below hb)
      replace Hc := Lib.hid (Hc.out.below hb)
      clear hb k0 k1 k2 k3 k4 k5 k6 k7 k8 k9 k10 k11
      cases Gb with
      | true =>
        have hg : G = true := by rw [← HGG.out]; rfl
        subst hg
        go_wp2_with fail
        go_meet
        exact ⟨rfl, HE, Ha, Hb, Hc⟩
      | false =>
        obtain ⟨⟨k0, k1, k2, k3, k4, k5⟩, ⟨k6, k7, k8, k9, k10, k11⟩⟩ := HE.out.box.load
        go_wp2_with fail
        refine (HFC.out _ HE.out.tab Hc.out).mono ?_
        rintro e w4 ⟨rfl, hb⟩
        replace HE := Lib.hid (HE.out.step hb)
        replace Ha := Lib.hid (Ha.out.below hb)
        replace Hb := Lib.hid (Hb.out.below hb)
        replace Hc := Lib.hid (Hc.out.below hb)
        clear hb k0 k1 k2 k3 k4 k5 k6 k7 k8 k9 k10 k11
        obtain rfl : G = Gc := by rw [← HGG.out]; rfl
        go_wp2_with fail
        go_meet
        exact ⟨rfl, HE, Ha, Hb, Hc⟩
  case rest =>
    obtain ⟨rfl, HE, Ha, Hb, Hc⟩ := hcut
    generalize wc = W5 at HE Ha Hb Hc ⊢
    clear HFA HFB HFC HGG
    go_wp2
    go_loopw [15, 59] (fun v i wr => ∃ k : Nat, k ≤ 3 ∧ i = .int .i64 k ∧ v = .int .i64 (if G = true ∧ ([za, zb, zc].take k).any (fun z => decide (z ≠ 0)) = true then 19 else 0) ∧ Hid (Below W5.heap.size W5 wr)) (fun _ i _ => 3 - (intOf i).toNat)
    case atStart => exact ⟨0, by omega, rfl, by simp, Lib.hid (Below.refl _ _)⟩
    case round =>
      obtain ⟨k, hk, rfl, rfl, hbj⟩ := hrel
      have HF := Lib.hid (HE.out.step hbj.out)
      rcases (show k = 0 ∨ k = 1 ∨ k = 2 ∨ k = 3 by omega) with rfl | rfl | rfl | rfl
      · obtain ⟨Y, hY⟩ : ∃ Y : Int, (if G = true ∧ ([za, zb, zc].take 0).any (fun z => decide (z ≠ 0)) = true then 19 else 0) = Y := ⟨_, rfl⟩
        rw [hY]
        have HY := Lib.hid hY
        have hix : ∀ W, (Instr.index 37 (.agg #[.slice pa xa.length ca, .slice pb xb.length cb, .slice pc xc.length cc]) (.int .i64 0)).run Tryz.prog W = .ok (.slice pa xa.length ca) W := fun W => by simp [Instr.index, run_underlying Tryz.underlying37, asIntOf, go_sem]
        clear hY
        obtain ⟨⟨k0, k1, k2, k3, k4, k5⟩, ⟨k6, k7, k8, k9, k10, k11⟩⟩ := HF.out.box.load
        go_wp2_with fail
        refine (HLA.out _ HF.out.tab (Ha.out.below hbj.out)).mono ?_
        rintro e w6 ⟨rfl, hb⟩
        replace hbj := Lib.hid (hbj.out.trans (hb.mono hbj.out.size))
        clear hb HF hix k0 k1 k2 k3 k4 k5 k6 k7 k8 k9 k10 k11
        cases G with
        | false =>
          go_wp2
          go_roundw
          case rel => exact ⟨1, by omega, rfl, by rw [← HY.out]; simp, hbj⟩
          case measure => first | (simp [intOf]; done) | (simp [intOf]; omega)
        | true =>
          by_cases hz : 0 < za
          · have g1 : decide ((0 : Int) < za) = true := decide_eq_true hz
            have HZ : Hid (za ≠ 0) := by unfold Hid; omega
            clear hz
            go_wp2
            go_roundw
            case rel => exact ⟨1, by omega, rfl, by simp [HZ.out], hbj⟩
            case measure => first | (simp [intOf]; done) | (simp [intOf]; omega)
          · have g1 : decide ((0 : Int) < za) = false := decide_eq_false hz
            have HZ : Hid (za = 0) := by unfold Hid; omega
            clear hz
            go_wp2
            go_roundw
            case rel => exact ⟨1, by omega, rfl, by rw [← HY.out]; simp [HZ.out], hbj⟩
            case measure => first | (simp [intOf]; done) | (simp [intOf]; omega)
      · obtain ⟨Y, hY⟩ : ∃ Y : Int, (if G = true ∧ ([za, zb, zc].take 1).any (fun z => decide (z ≠ 0)) = true then 19 else 0) = Y := ⟨_, rfl⟩
        rw [hY]
        have HY := Lib.hid hY
        have hix : ∀ W, (Instr.index 37 (.agg #[.slice pa xa.length ca, .slice pb xb.length cb, .slice pc xc.length cc]) (.int .i64 1)).run Tryz.prog W = .ok (.slice pb xb.length cb) W := fun W => by simp [Instr.index, run_underlying Tryz.underlying37, asIntOf, go_sem]
        clear hY
        obtain ⟨⟨k0, k1, k2, k3, k4, k5⟩, ⟨k6, k7, k8, k9, k10, k11⟩⟩ := HF.out.box.load
        go_wp2_with fail
        refine (HLB.out _ HF.out.tab (Hb.out.below hbj.out)).mono ?_
        rintro e w6 ⟨rfl, hb⟩
        replace hbj := Lib.hid (hbj.out.trans (hb.mono hbj.out.size))
        clear hb HF hix k0 k1 k2 k3 k4 k5 k6 k7 k8 k9 k10 k11
        cases G with
        | false =>
          go_wp2
          go_roundw
          case rel => exact ⟨2, by omega, rfl, by rw [← HY.out]; simp, hbj⟩
          case measure => first | (simp [intOf]; done) | (simp [intOf]; omega)
        | true =>
          by_cases hz : 0 < zb
          · have g1 : decide ((0 : Int) < zb) = true := decide_eq_true hz
            have HZ : Hid (zb ≠ 0) := by unfold Hid; omega
            clear hz
            go_wp2
            go_roundw
            case rel => exact ⟨2, by omega, rfl, by simp [HZ.out], hbj⟩
            case measure => first | (simp [intOf]; done) | (simp [intOf]; omega)
          · have g1 : decide ((0 : Int) < zb) = false := decide_eq_false hz
            have HZ : Hid (zb = 0) := by unfold Hid; omega
            clear hz
            go_wp2
            go_roundw
            case rel => exact ⟨2, by omega, rfl, by rw [← HY.out]; simp [HZ.out], hbj⟩
            case measure => first | (simp [intOf]; done) | (simp [intOf]; omega)
      · obtain ⟨Y, hY⟩ : ∃ Y : Int, (if G = true ∧ ([za, zb, zc].take 2).any (fun z => decide (z ≠ 0)) = true then 19 else 0) = Y := ⟨_, rfl⟩
        rw [hY]
        have HY := Lib.hid hY
        have hix : ∀ W, (Instr.index 37 (.agg #[.slice pa xa.length ca, .slice pb xb.length cb, .slice pc xc.length cc]) (.int .i64 2)).run Tryz.prog W = .ok (.slice pc xc.length cc) W := fun W => by simp [Instr.index, run_underlying Tryz.underlying37, asIntOf, go_sem]
        clear hY
        obtain ⟨⟨k0, k1, k2, k3, k4, k5⟩, ⟨k6, k7, k8, k9, k10, k11⟩⟩ := HF.out.box.load
        go_wp2_with fail
        refine (HLC.out _ HF.out.tab (Hc.out.below hbj.out)).mono ?_
        rintro e w6 ⟨rfl, hb⟩
        replace hbj := Lib.hid (hbj.out.trans (hb.mono hbj.out.size))
        clear hb HF hix k0 k1 k2 k3 k4 k5 k6 k7 k8 k9 k10 k11
        cases G with
        | false =>
          go_wp2
          go_roundw
          case rel => exact ⟨3, by omega, rfl, by rw [← HY.out]; simp, hbj⟩
          case measure => first | (simp [intOf]; done) | (simp [intOf]; omega)
        | true =>
          by_cases hz : 0 < zc
          · have g1 : decide ((0 : Int) < zc) = true := decide_eq_true hz
            have HZ : Hid (zc ≠ 0) := by unfold Hid; omega
            clear hz
            go_wp2
            go_roundw
            case rel => exact ⟨3, by omega, rfl, by simp [HZ.out], hbj⟩
            case measure => first | (simp [intOf]; done) | (simp [intOf]; omega)
          · have g1 : decide ((0 : Int) < zc) = false := decide_eq_false hz
            have HZ : Hid (zc = 0) := by unfold Hid; omega
            clear hz
            go_wp2
            go_roundw
            case rel => exact ⟨3, by omega, rfl, by rw [← HY.out]; simp [HZ.out], hbj⟩
            case measure => first | (simp [intOf]; done) | (simp [intOf]; omega)
      · have hw : (if G = true ∧ ([za, zb, zc].take 3).any (fun z => decide (z ≠ 0)) = true then (19 : Int) else 0) = E3 := by
          rw [← HWW.out, ← HVV.out]; simp [List.any_cons, Bool.or_assoc]
        rw [hw]
        clear hw
        replace HE := Lib.hid (HE.out.step hbj.out)
        replace Ha := Lib.hid (Ha.out.below hbj.out)
        replace Hb := Lib.hid (Hb.out.below hbj.out)
        replace Hc := Lib.hid (Hc.out.below hbj.out)
        have n0 : (E3 == E3) = true := by simp
        clear hbj HF HLA HLB HLC
        obtain ⟨⟨k0, k1, k2, k3, k4, k5⟩, ⟨k6, k7, k8, k9, k10, k11⟩⟩ := HE.out.box.load
        have HI := Lib.hid (ls3 (t := 22) Hc.out HCC.out Ha.out HCA.out Hb.out HCB.out)
        have HEA := Lib.hid (HE.out.step ((Below.refl wr.heap.size wr).alloc (Nat.le_refl _) (.cells #[.slice pc xc.length cc, .slice pa xa.length ca, .slice pb xb.length cb] 22)))
        go_wp2_with fail
        refine (HO2.out _ _ HEA.out.tab (HR.out.below HEA.out.bel) HI.out).mono ?_
        rintro e w7 ⟨rfl, hb⟩
        have hbe := ((Below.refl wr.heap.size wr).alloc (Nat.le_refl _) (.cells #[.slice pc xc.length cc, .slice pa xa.length ca, .slice pb xb.length cb] 22)).trans (hb.mono (by simp))
        replace HE := Lib.hid (HE.out.step hbe)
        replace Ha := Lib.hid (Ha.out.below hbe)
        replace Hb := Lib.hid (Hb.out.below hbe)
        replace Hc := Lib.hid (Hc.out.below hbe)
        clear hb hbe HI HEA k0 k1 k2 k3 k4 k5 k6 k7 k8 k9 k10 k11
        obtain ⟨⟨k0, k1, k2, k3, k4, k5⟩, ⟨k6, k7, k8, k9, k10, k11⟩⟩ := HE.out.box.load
        have HI := Lib.hid (ls3 (t := 22) Hb.out HCB.out Ha.out HCA.out Hc.out HCC.out)
        have HEA := Lib.hid (HE.out.step ((Below.refl w7.heap.size w7).alloc (Nat.le_refl _) (.cells #[.slice pb xb.length cb, .slice pa xa.length ca, .slice pc xc.length cc] 22)))
        go_wp2_with fail
        refine (HO3.out _ _ HEA.out.tab (HR.out.below HEA.out.bel) HI.out).mono ?_
        rintro e w8 ⟨rfl, hb⟩
        have hbe := ((Below.refl w7.heap.size w7).alloc (Nat.le_refl _) (.cells #[.slice pb xb.length cb, .slice pa xa.length ca, .slice pc xc.length cc] 22)).trans (hb.mono (by simp))
        replace HE := Lib.hid (HE.out.step hbe)
        replace Ha := Lib.hid (Ha.out.below hbe)
        replace Hb := Lib.hid (Hb.out.below hbe)
        replace Hc := Lib.hid (Hc.out.below hbe)
        clear hb hbe HI HEA k0 k1 k2 k3 k4 k5 k6 k7 k8 k9 k10 k11
        go_wp2_with fail
        refine (awake16_any _ (HR.out.below HE.out.bel)).mono ?_
        rintro e w9 ⟨rfl, hb⟩
        have HBZ := Lib.hid (HE.out.step hb).bel
        clear hb
        go_wp2
        go_ret
        exact ⟨rfl, HBZ.out⟩

end Go.Proofs.YtiafhifbgdkgaaaGreatDoor
