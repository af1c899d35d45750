/-
  The walk of MappingTwice (genML.py).
-/
import Derived.Test.YtnmckcfaalakoaaDoorSMaMapLaw
import Derived.Test.YtnmckcfaalakoaaDoorSMaTblQ
set_option linter.unusedSimpArgs false
set_option linter.unusedVariables false
namespace Go.Proofs.YtnmckcfaalakoaaDoor
open Go.RowKit
set_option linter.unusedVariables false

set_option maxRecDepth 100000 in
set_option maxHeartbeats 8000000 in
theorem mappingTwice_walk (p0 : Option Addr) (cap0 : Nat) (zs0 : List Int) (p1 : Option Addr) (cap1 : Nat) (zs1 : List Int) (w : World) (hin0 : IntsIn w p0 zs0) (hl0 : zs0.length ≤ 17592186043904) (hin1 : IntsIn w p1 zs1) (hl1 : zs1.length ≤ 17592186043904) (hr : Rsv w) :
    Calls Tryd.prog 3 #[.slice p0 zs0.length cap0, .slice p1 zs1.length cap1] w (Gives (.bool true) w) := by
  have HI0 := Lib.hid hin0
  have HL0 := Lib.hid hl0
  have HI1 := Lib.hid hin1
  have HL1 := Lib.hid hl1
  have HR := Lib.hid hr
  clear hin0 hl0 hin1 hl1 hr
  go_enter Tryd.func3, Tryd.ntmps3
  go_wp2_with fail
  refine (tables_any p0 cap0 zs0 _ HI0.out HL0.out).mono ?_
  rintro e w1 ⟨⟨a0, a1, a2, a3, a4, a5, a6, a7, a8, a9, a10, a11⟩, T, rfl, htv, hm, hcap1, hb1⟩
  obtain ⟨pa0, na0, qa0, hsl0⟩ : Slc a0 := htv.cat.slc
  subst hsl0
  obtain ⟨pa1, na1, qa1, hsl1⟩ : Slc a1 := htv.cls.slc
  subst hsl1
  obtain ⟨pa2, na2, qa2, hsl2⟩ : Slc a2 := htv.joi.slc
  subst hsl2
  obtain ⟨pa3, na3, qa3, hsl3⟩ : Slc a3 := htv.bid.slc
  subst hsl3
  obtain ⟨pa4, na4, qa4, hsl4⟩ : Slc a4 := htv.scr.slc
  subst hsl4
  obtain ⟨pa5, na5, qa5, hsl5⟩ : Slc a5 := htv.sta.slc
  subst hsl5
  obtain ⟨pa6, na6, qa6, hsl6⟩ : Slc a6 := htv.ign.slc
  subst hsl6
  obtain ⟨pa7, na7, qa7, hsl7⟩ : Slc a7 := htv.ext.slc
  subst hsl7
  obtain ⟨pa8, na8, qa8, hsl8⟩ : Slc a8 := htv.map.slc
  subst hsl8
  obtain ⟨pa9, na9, qa9, hsl9⟩ : Slc a9 := htv.dec.slc
  subst hsl9
  obtain ⟨pa10, na10, qa10, hsl10⟩ : Slc a10 := htv.exc.slc
  subst hsl10
  obtain ⟨pa11, na11, qa11, hsl11⟩ : Slc a11 := htv.pro.slc
  subst hsl11
  have hba1 : Below w1.heap.size w1 (w1.alloc (.cells (tabCells ⟨.slice pa0 na0 qa0, .slice pa1 na1 qa1, .slice pa2 na2 qa2, .slice pa3 na3 qa3, .slice pa4 na4 qa4, .slice pa5 na5 qa5, .slice pa6 na6 qa6, .slice pa7 na7 qa7, .slice pa8 na8 qa8, .slice pa9 na9 qa9, .slice pa10 na10 qa10, .slice pa11 na11 qa11⟩) 26)) := (Below.refl _ _).alloc (Nat.le_refl _) _
  have HT1 : Hid (TabV (w1.alloc (.cells (tabCells ⟨.slice pa0 na0 qa0, .slice pa1 na1 qa1, .slice pa2 na2 qa2, .slice pa3 na3 qa3, .slice pa4 na4 qa4, .slice pa5 na5 qa5, .slice pa6 na6 qa6, .slice pa7 na7 qa7, .slice pa8 na8 qa8, .slice pa9 na9 qa9, .slice pa10 na10 qa10, .slice pa11 na11 qa11⟩) 26)) ⟨.slice pa0 na0 qa0, .slice pa1 na1 qa1, .slice pa2 na2 qa2, .slice pa3 na3 qa3, .slice pa4 na4 qa4, .slice pa5 na5 qa5, .slice pa6 na6 qa6, .slice pa7 na7 qa7, .slice pa8 na8 qa8, .slice pa9 na9 qa9, .slice pa10 na10 qa10, .slice pa11 na11 qa11⟩ T) := htv.below hba1
  have HX1 : Hid (BoxT (w1.alloc (.cells (tabCells ⟨.slice pa0 na0 qa0, .slice pa1 na1 qa1, .slice pa2 na2 qa2, .slice pa3 na3 qa3, .slice pa4 na4 qa4, .slice pa5 na5 qa5, .slice pa6 na6 qa6, .slice pa7 na7 qa7, .slice pa8 na8 qa8, .slice pa9 na9 qa9, .slice pa10 na10 qa10, .slice pa11 na11 qa11⟩) 26)) w1.heap.size ⟨.slice pa0 na0 qa0, .slice pa1 na1 qa1, .slice pa2 na2 qa2, .slice pa3 na3 qa3, .slice pa4 na4 qa4, .slice pa5 na5 qa5, .slice pa6 na6 qa6, .slice pa7 na7 qa7, .slice pa8 na8 qa8, .slice pa9 na9 qa9, .slice pa10 na10 qa10, .slice pa11 na11 qa11⟩) := BoxT.new _ _ _
  have HB1 : Hid (Below w.heap.size w (w1.alloc (.cells (tabCells ⟨.slice pa0 na0 qa0, .slice pa1 na1 qa1, .slice pa2 na2 qa2, .slice pa3 na3 qa3, .slice pa4 na4 qa4, .slice pa5 na5 qa5, .slice pa6 na6 qa6, .slice pa7 na7 qa7, .slice pa8 na8 qa8, .slice pa9 na9 qa9, .slice pa10 na10 qa10, .slice pa11 na11 qa11⟩) 26))) := hb1.trans (hba1.mono hb1.size)
  have HM := Lib.hid hm
  have HCAP : Hid (CapOf ⟨.slice pa0 na0 qa0, .slice pa1 na1 qa1, .slice pa2 na2 qa2, .slice pa3 na3 qa3, .slice pa4 na4 qa4, .slice pa5 na5 qa5, .slice pa6 na6 qa6, .slice pa7 na7 qa7, .slice pa8 na8 qa8, .slice pa9 na9 qa9, .slice pa10 na10 qa10, .slice pa11 na11 qa11⟩) := hcap1
  clear htv hm hcap1 hb1 hba1
  simp only [tabCells] at HT1 HX1 HB1
  go_wp2_with fail
  generalize (w1.alloc (.cells #[.slice pa0 na0 qa0, .slice pa1 na1 qa1, .slice pa2 na2 qa2, .slice pa3 na3 qa3, .slice pa4 na4 qa4, .slice pa5 na5 qa5, .slice pa6 na6 qa6, .slice pa7 na7 qa7, .slice pa8 na8 qa8, .slice pa9 na9 qa9, .slice pa10 na10 qa10, .slice pa11 na11 qa11] 26)) = W at HT1 HX1 HB1 ⊢
  generalize w1.heap.size = g at HX1 ⊢
  generalize (⟨.slice pa0 na0 qa0, .slice pa1 na1 qa1, .slice pa2 na2 qa2, .slice pa3 na3 qa3, .slice pa4 na4 qa4, .slice pa5 na5 qa5, .slice pa6 na6 qa6, .slice pa7 na7 qa7, .slice pa8 na8 qa8, .slice pa9 na9 qa9, .slice pa10 na10 qa10, .slice pa11 na11 qa11⟩ : TV) = x at HT1 HX1 HCAP
  have HE : Hid (LEnv w g x T W) := ⟨HT1.out, HX1.out, HB1.out⟩
  clear HT1 HX1 HB1
  obtain ⟨xa, hXa⟩ : ∃ m, Hid (wordF zs1 = m) := ⟨_, rfl⟩
  have hna : xa.length ≤ 6 := by have := (wordF_len zs1).2; rwa [hXa.out] at this
  have HSa : Hid (xa.all scaB = true) := by unfold Hid; rw [← hXa.out]; exact wordF_sca zs1
  refine (kwordsN_at p1 zs1.length cap1 zs1 xa _ (HI1.out.below HE.out.bel) (Lib.hid rfl) HL1.out hXa).mono ?_
  rintro e wa ⟨va, rfl, hi, hb⟩
  obtain ⟨pa, ca, rfl, hia⟩ := hi.inn
  replace HE := Lib.hid (HE.out.step hb)
  have Ha := Lib.hid hia
  clear hi hb hia hXa
  go_wp2_with fail
  refine (points_any p1 cap1 zs1 _ (HI1.out.below HE.out.bel) HL1.out).mono ?_
  rintro e wb ⟨xb, vb, rfl, hnb, hsb, hi, hb⟩
  obtain ⟨pb, cb, rfl, hib⟩ := hi.inn
  replace HE := Lib.hid (HE.out.step hb)
  replace Ha := Lib.hid (Ha.out.below hb)
  have Hb := Lib.hid hib
  have HSb := Lib.hid hsb
  clear hi hb hib hsb
  have hna2 : xa.length ≤ 10 := by omega
  obtain ⟨na, hna3⟩ : ∃ n, xa.length = n := ⟨_, rfl⟩
  obtain ⟨nb, hnb3⟩ : ∃ n, xb.length = n := ⟨_, rfl⟩
  rw [hna3, hnb3]
  have HNA := Lib.hid hna3
  have HNB := Lib.hid hnb3
  have HMP : Hid (∀ p n c zs (L : List Int) K E, zs.length = n → n ≤ 4096 → Hid (mapR T zs = (L, K, E)) → ∀ W, TabV W x T → Rsv W → IntsIn W p zs → Calls Tryd.prog 11 #[x.agg, .slice p n c] W (MapRet L K E W)) := fun p n c zs L K E h1 h2 h3 W h4 h5 h6 => by
    subst h1
    exact map_at x T p c zs L K E W h4 h5 h6 (by omega) h3
  have HST : Hid (∀ p n c zs B, zs.length = n → n ≤ 4096 → Hid (stbB T zs = B) → ∀ W, TabV W x T → Rsv W → IntsIn W p zs → Calls Tryd.prog 13 #[x.agg, .slice p n c] W (Gives (.bool B) W)) := fun p n c zs B h1 h2 h3 W h4 h5 h6 => by
    subst h1
    exact stable_at x T p c zs B W h4 h5 h6 (by omega) h3
  have hna4 : na ≤ 10 := by omega
  have hnb4 : nb ≤ 10 := by omega
  clear hna2 hna3 hnb3 hna hnb HSa HSb
  go_wp2
  go_loopw [21] (fun i wr => ∃ k : Nat, k ≤ 2 ∧ i = .int .i64 k ∧ Hid (LEnv w g x T wr) ∧ Hid (IntsIn wr pa xa) ∧ Hid (IntsIn wr pb xb)) (fun i _ => 2 - (intOf i).toNat)
  case atStart => exact ⟨0, Nat.zero_le _, rfl, HE, Ha, Hb⟩
  case round =>
    obtain ⟨k, hk, rfl, he, hxa, hxb⟩ := hrel
    by_cases hlt : k < 2
    · obtain ⟨p, n, c, zs, hzn, hn4, hix, hzi⟩ : ∃ (p : Option Addr) (n c : Nat) (zs : List Int), Hid (zs.length = n) ∧ n ≤ 10 ∧ (∀ W, (Instr.index 29 (.agg #[.slice pa na ca, .slice pb nb cb]) (.int .i64 k)).run Tryd.prog W = .ok (.slice p n c) W) ∧ Hid (IntsIn wr p zs) := by
        rcases (show k = 0 ∨ k = 1 by omega) with rfl | rfl
        · exact ⟨pa, na, ca, xa, HNA, hna4, fun W => by simp [Instr.index, run_underlying Tryd.underlying29, asIntOf, go_sem], hxa⟩
        · exact ⟨pb, nb, cb, xb, HNB, hnb4, fun W => by simp [Instr.index, run_underlying Tryd.underlying29, asIntOf, go_sem], hxb⟩
      obtain ⟨L, K, E, hR⟩ : ∃ L K E, Hid (mapR T zs = (L, K, E)) := ⟨_, _, _, rfl⟩
      have hl4 : L.length ≤ 4096 := by have := mapR_len T zs; rwa [hR.out] at this
      have HTW : Hid (E = 0 → mapR T L = (L, 0, 0) ∧ stbB T L = true) := fun h0 => by
        have := map_twice HM.out (l := zs) (by rw [hR.out]; exact h0)
        rwa [hR.out] at this
      obtain ⟨nl, hnl⟩ : ∃ n, L.length = n := ⟨_, rfl⟩
      rw [hnl] at hl4
      have HNL := Lib.hid hnl
      clear hnl
      obtain ⟨⟨k0, k1, k2, k3, k4, k5⟩, ⟨k6, k7, k8, k9, k10, k11⟩⟩ := he.out.box.load
      go_wp2_with fail
      refine (HMP.out p n c zs L K E hzn.out (by omega) hR _ he.out.tab (HR.out.below he.out.bel) hzi.out).mono ?_
      rintro e w4 ⟨v4, rfl, ho4, hb⟩
      obtain ⟨p4, c4, e4, hi4⟩ := ho4.inn
      rw [HNL.out] at e4
      subst e4
      replace he := Lib.hid (he.out.step hb)
      replace hxa := Lib.hid (hxa.out.below hb)
      replace hxb := Lib.hid (hxb.out.below hb)
      have HX := Lib.hid hi4
      clear ho4 hi4 hb hix hzi hR k0 k1 k2 k3 k4 k5 k6 k7 k8 k9 k10 k11
      by_cases h0 : E = 0
      · have d0 : (E != 0) = false := by simp [h0]
        obtain ⟨h1, h2⟩ := HTW.out h0
        have H1 := Lib.hid h1
        have H2 := Lib.hid h2
        clear h0 h1 h2
        obtain ⟨⟨k0, k1, k2, k3, k4, k5⟩, ⟨k6, k7, k8, k9, k10, k11⟩⟩ := he.out.box.load
        go_wp2_with fail
        refine (HMP.out p4 nl c4 L L 0 0 HNL.out hl4 H1 _ he.out.tab (HR.out.below he.out.bel) HX.out).mono ?_
        rintro e w5 ⟨v5, rfl, ho5, hb⟩
        obtain ⟨p5, c5, e5, hi5⟩ := ho5.inn
        rw [HNL.out] at e5
        subst e5
        replace he := Lib.hid (he.out.step hb)
        replace hxa := Lib.hid (hxa.out.below hb)
        replace hxb := Lib.hid (hxb.out.below hb)
        replace HX := Lib.hid (HX.out.below hb)
        have HX5 := Lib.hid hi5
        clear ho5 hi5 hb k0 k1 k2 k3 k4 k5 k6 k7 k8 k9 k10 k11
        go_wp2_with fail
        refine (same_at (.slice p4 nl c4) (.slice p5 nl c5) L L true _ (slice_inV13 HNL.out (by omega) HX.out) (slice_inV13 HNL.out (by omega) HX5.out) (by simp [Hid])).mono ?_
        rintro e w6 ⟨rfl, hb⟩
        replace he := Lib.hid (he.out.step hb)
        replace hxa := Lib.hid (hxa.out.below hb)
        replace hxb := Lib.hid (hxb.out.below hb)
        replace HX := Lib.hid (HX.out.below hb)
        clear hb HX5
        obtain ⟨⟨k0, k1, k2, k3, k4, k5⟩, ⟨k6, k7, k8, k9, k10, k11⟩⟩ := he.out.box.load
        go_wp2_with fail
        refine (HST.out p4 nl c4 L true HNL.out hl4 H2 _ he.out.tab (HR.out.below he.out.bel) HX.out).mono ?_
        rintro e w7 ⟨rfl, hb⟩
        replace he := Lib.hid (he.out.step hb)
        replace hxa := Lib.hid (hxa.out.below hb)
        replace hxb := Lib.hid (hxb.out.below hb)
        clear hb HX k0 k1 k2 k3 k4 k5 k6 k7 k8 k9 k10 k11
        go_wp2
        go_roundw
        case rel => exact ⟨k + 1, by omega, by go_num, he, hxa, hxb⟩
        case measure => simp [intOf]; omega
      · have d0 : (E != 0) = true := by simp [h0]
        clear h0
        go_wp2
        go_roundw
        case rel => exact ⟨k + 1, by omega, by go_num, he, hxa, hxb⟩
        case measure => simp [intOf]; omega
    · obtain rfl : k = 2 := by omega
      go_wp2_with fail
      refine (awake13_any _ (HR.out.below he.out.bel)).mono ?_
      rintro e w9 ⟨rfl, hb⟩
      have HBZ := Lib.hid (he.out.step hb).bel
      clear hb
      go_wp2
      go_ret
      exact ⟨rfl, HBZ.out⟩

end Go.Proofs.YtnmckcfaalakoaaDoor
