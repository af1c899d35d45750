/-
  The walk of MappingPermitted (genML.py).
-/
import Derived.Test.YtnmckcfaalakoaaDoorSMaMapLaw
import Derived.Test.YtnmckcfaalakoaaDoorSMaTblQ
set_option linter.unusedSimpArgs false
set_option linter.unusedVariables false
namespace Go.Proofs.YtnmckcfaalakoaaDoor
open Go.RowKit
set_option linter.unusedVariables false

set_option maxRecDepth 100000 in
set_option maxHeartbeats 8000000 in
theorem mappingPermitted_walk (p0 : Option Addr) (cap0 : Nat) (zs0 : List Int) (p1 : Option Addr) (cap1 : Nat) (zs1 : List Int) (w : World) (hin0 : IntsIn w p0 zs0) (hl0 : zs0.length ≤ 17592186043904) (hin1 : IntsIn w p1 zs1) (hl1 : zs1.length ≤ 17592186043904) (hr : Rsv w) :
    Calls Tryd.prog 5 #[.slice p0 zs0.length cap0, .slice p1 zs1.length cap1] w (Gives (.bool true) w) := by
  have HI0 := Lib.hid hin0
  have HL0 := Lib.hid hl0
  have HI1 := Lib.hid hin1
  have HL1 := Lib.hid hl1
  have HR := Lib.hid hr
  clear hin0 hl0 hin1 hl1 hr
  go_enter Tryd.func5, Tryd.ntmps5
  go_wp2_with fail
  refine (tables_any p0 cap0 zs0 _ HI0.out HL0.out).mono ?_
  rintro e w1 ⟨⟨a0, a1, a2, a3, a4, a5, a6, a7, a8, a9, a10, a11⟩, T, rfl, htv, hm, hcap1, hb1⟩
  obtain ⟨pa0, na0, qa0, hsl0⟩ : Slc a0 := htv.cat.slc
  subst hsl0
  obtain ⟨pa1, na1, qa1, hsl1⟩ : Slc a1 := htv.cls.slc
  subst hsl1
  obtain ⟨pa2, na2, qa2, hsl2⟩ : Slc a2 := htv.joi.slc
  subst hsl2
  obtain ⟨pa3, na3, qa3, hsl3⟩ : Slc a3 := htv.bid.slc
  subst hsl3
  obtain ⟨pa4, na4, qa4, hsl4⟩ : Slc a4 := htv.scr.slc
  subst hsl4
  obtain ⟨pa5, na5, qa5, hsl5⟩ : Slc a5 := htv.sta.slc
  subst hsl5
  obtain ⟨pa6, na6, qa6, hsl6⟩ : Slc a6 := htv.ign.slc
  subst hsl6
  obtain ⟨pa7, na7, qa7, hsl7⟩ : Slc a7 := htv.ext.slc
  subst hsl7
  obtain ⟨pa8, na8, qa8, hsl8⟩ : Slc a8 := htv.map.slc
  subst hsl8
  obtain ⟨pa9, na9, qa9, hsl9⟩ : Slc a9 := htv.dec.slc
  subst hsl9
  obtain ⟨pa10, na10, qa10, hsl10⟩ : Slc a10 := htv.exc.slc
  subst hsl10
  obtain ⟨pa11, na11, qa11, hsl11⟩ : Slc a11 := htv.pro.slc
  subst hsl11
  have hba1 : Below w1.heap.size w1 (w1.alloc (.cells (tabCells ⟨.slice pa0 na0 qa0, .slice pa1 na1 qa1, .slice pa2 na2 qa2, .slice pa3 na3 qa3, .slice pa4 na4 qa4, .slice pa5 na5 qa5, .slice pa6 na6 qa6, .slice pa7 na7 qa7, .slice pa8 na8 qa8, .slice pa9 na9 qa9, .slice pa10 na10 qa10, .slice pa11 na11 qa11⟩) 26)) := (Below.refl _ _).alloc (Nat.le_refl _) _
  have HT1 : Hid (TabV (w1.alloc (.cells (tabCells ⟨.slice pa0 na0 qa0, .slice pa1 na1 qa1, .slice pa2 na2 qa2, .slice pa3 na3 qa3, .slice pa4 na4 qa4, .slice pa5 na5 qa5, .slice pa6 na6 qa6, .slice pa7 na7 qa7, .slice pa8 na8 qa8, .slice pa9 na9 qa9, .slice pa10 na10 qa10, .slice pa11 na11 qa11⟩) 26)) ⟨.slice pa0 na0 qa0, .slice pa1 na1 qa1, .slice pa2 na2 qa2, .slice pa3 na3 qa3, .slice pa4 na4 qa4, .slice pa5 na5 qa5, .slice pa6 na6 qa6, .slice pa7 na7 qa7, .slice pa8 na8 qa8, .slice pa9 na9 qa9, .slice pa10 na10 qa10, .slice pa11 na11 qa11⟩ T) := htv.below hba1
  have HX1 : Hid (BoxT (w1.alloc (.cells (tabCells ⟨.slice pa0 na0 qa0, .slice pa1 na1 qa1, .slice pa2 na2 qa2, .slice pa3 na3 qa3, .slice pa4 na4 qa4, .slice pa5 na5 qa5, .slice pa6 na6 qa6, .slice pa7 na7 qa7, .slice pa8 na8 qa8, .slice pa9 na9 qa9, .slice pa10 na10 qa10, .slice pa11 na11 qa11⟩) 26)) w1.heap.size ⟨.slice pa0 na0 qa0, .slice pa1 na1 qa1, .slice pa2 na2 qa2, .slice pa3 na3 qa3, .slice pa4 na4 qa4, .slice pa5 na5 qa5, .slice pa6 na6 qa6, .slice pa7 na7 qa7, .slice pa8 na8 qa8, .slice pa9 na9 qa9, .slice pa10 na10 qa10, .slice pa11 na11 qa11⟩) := BoxT.new _ _ _
  have HB1 : Hid (Below w.heap.size w (w1.alloc (.cells (tabCells ⟨.slice pa0 na0 qa0, .slice pa1 na1 qa1, .slice pa2 na2 qa2, .slice pa3 na3 qa3, .slice pa4 na4 qa4, .slice pa5 na5 qa5, .slice pa6 na6 qa6, .slice pa7 na7 qa7, .slice pa8 na8 qa8, .slice pa9 na9 qa9, .slice pa10 na10 qa10, .slice pa11 na11 qa11⟩) 26))) := hb1.trans (hba1.mono hb1.size)
  have HM := Lib.hid hm
  have HCAP : Hid (CapOf ⟨.slice pa0 na0 qa0, .slice pa1 na1 qa1, .slice pa2 na2 qa2, .slice pa3 na3 qa3, .slice pa4 na4 qa4, .slice pa5 na5 qa5, .slice pa6 na6 qa6, .slice pa7 na7 qa7, .slice pa8 na8 qa8, .slice pa9 na9 qa9, .slice pa10 na10 qa10, .slice pa11 na11 qa11⟩) := hcap1
  clear htv hm hcap1 hb1 hba1
  simp only [tabCells] at HT1 HX1 HB1
  go_wp2_with fail
  generalize (w1.alloc (.cells #[.slice pa0 na0 qa0, .slice pa1 na1 qa1, .slice pa2 na2 qa2, .slice pa3 na3 qa3, .slice pa4 na4 qa4, .slice pa5 na5 qa5, .slice pa6 na6 qa6, .slice pa7 na7 qa7, .slice pa8 na8 qa8, .slice pa9 na9 qa9, .slice pa10 na10 qa10, .slice pa11 na11 qa11] 26)) = W at HT1 HX1 HB1 ⊢
  generalize w1.heap.size = g at HX1 ⊢
  generalize (⟨.slice pa0 na0 qa0, .slice pa1 na1 qa1, .slice pa2 na2 qa2, .slice pa3 na3 qa3, .slice pa4 na4 qa4, .slice pa5 na5 qa5, .slice pa6 na6 qa6, .slice pa7 na7 qa7, .slice pa8 na8 qa8, .slice pa9 na9 qa9, .slice pa10 na10 qa10, .slice pa11 na11 qa11⟩ : TV) = x at HT1 HX1 HCAP
  have HE : Hid (LEnv w g x T W) := ⟨HT1.out, HX1.out, HB1.out⟩
  clear HT1 HX1 HB1
  refine (points_any p1 cap1 zs1 _ (HI1.out.below HE.out.bel) HL1.out).mono ?_
  rintro e wa ⟨xs, va, rfl, hna, hsa, hi, hb⟩
  obtain ⟨pa, ca, rfl, hia⟩ := hi.inn
  replace HE := Lib.hid (HE.out.step hb)
  have Ha := Lib.hid hia
  have HSa := Lib.hid hsa
  clear hi hb hia hsa
  have hac : accE T xs = 0 := accE_zero HM.out.check (by omega) HSa.out
  have hml : (mapF T xs).length ≤ 4096 := by have := (mapF_sca HM.out.check xs HSa.out).1; omega
  obtain ⟨L, K, E, hR⟩ : ∃ L K E, Hid (mapR T xs = (L, K, E)) := ⟨_, _, _, rfl⟩
  have HBAD : Hid (∀ i, badK T 0 xs = some i → L = [] ∧ K = i ∧ E = 16) := fun i hb => by
    have := hR.out
    rw [mapR_bad hac hb] at this
    injection this with e1 e2
    injection e2 with e2 e3
    exact ⟨e1.symm, e2.symm, e3.symm⟩
  have HEND : Hid (badK T 0 xs = none → L = mapF T xs ∧ E = 0) := fun hb => by
    have := hR.out
    rw [mapR_end hac hb, if_neg (by omega)] at this
    injection this with e1 e2
    injection e2 with e2 e3
    exact ⟨e1.symm, e3.symm⟩
  have hL4 : L.length ≤ 4096 := by have := mapR_len T xs; rwa [hR.out] at this
  have HSTA : Hid (spOk T.sta = true) := r2_sta (check_rules HM.out.check).2.1
  have hmp := fun W (h1 : TabV W x T) h2 h3 => map_at x T pa ca xs L K E W h1 h2 h3 (by omega) hR
  obtain ⟨n, hn⟩ : ∃ n, xs.length = n := ⟨_, rfl⟩
  rw [hn] at hmp ⊢
  have HN := Lib.hid hn
  have HMP := Lib.hid hmp
  clear hac hml hmp hn
  obtain ⟨⟨k0, k1, k2, k3, k4, k5⟩, ⟨k6, k7, k8, k9, k10, k11⟩⟩ := HE.out.box.load
  go_wp2_with fail
  refine (HMP.out _ HE.out.tab (HR.out.below HE.out.bel) Ha.out).mono ?_
  rintro e w4 ⟨v4, rfl, ho4, hb⟩
  obtain ⟨pL, cL, rfl, hi4⟩ := ho4.inn
  replace HE := Lib.hid (HE.out.step hb)
  replace Ha := Lib.hid (Ha.out.below hb)
  have HO := Lib.hid hi4
  obtain ⟨nL, hnL⟩ : ∃ n, L.length = n := ⟨_, rfl⟩
  rw [hnL] at hL4 ⊢
  have HNL := Lib.hid hnL
  clear ho4 hi4 hb hnL HMP k0 k1 k2 k3 k4 k5 k6 k7 k8 k9 k10 k11
  go_wp2
  go_loopw [28] (fun i wr => ∃ k : Nat, k ≤ n ∧ i = .int .i64 k ∧ Hid (∀ j, j < k → staT T (xs.getD j 0) ≠ 0) ∧ Hid (LEnv w g x T wr) ∧ Hid (IntsIn wr pa xs) ∧ Hid (IntsIn wr pL L)) (fun i _ => n - (intOf i).toNat)
  case atStart => exact ⟨0, Nat.zero_le _, rfl, fun j hj => by omega, HE, Ha, HO⟩
  case round =>
    obtain ⟨k, hk, rfl, hgd, he, hxa, hxo⟩ := hrel
    by_cases hlt : k < n
    · have hkl : k < xs.length := by rw [HN.out]; exact hlt
      obtain ⟨b, off, rfl, hck⟩ := hxa.out k hkl
      obtain ⟨c, hc⟩ : ∃ c, xs.getD k 0 = c := ⟨_, rfl⟩
      rw [hc] at hck
      obtain ⟨z, hz⟩ : ∃ z, Hid (staT T c = z) := ⟨_, rfl⟩
      have HGD2 : Hid (z ≠ 0 → ∀ j, j < k + 1 → staT T (xs.getD j 0) ≠ 0) := fun hz0 j hj => by
        by_cases e : j = k
        · subst e; rw [hc, hz.out]; exact hz0
        · exact hgd.out j (by omega)
      have HB2 : Hid (z = 0 → badK T 0 xs = some k) := fun hz0 => by
        have := badK_first 0 xs k hkl hgd.out (by rw [hc, hz.out]; exact hz0)
        rwa [Nat.zero_add] at this
      clear hc hgd
      obtain ⟨⟨k0, k1, k2, k3, k4, k5⟩, ⟨k6, k7, k8, k9, k10, k11⟩⟩ := he.out.box.load
      go_wp2_with fail
      refine (rstatus_at x T c z _ he.out.tab HSTA.out hz).mono ?_
      rintro e w5 ⟨rfl, hb⟩
      replace he := Lib.hid (he.out.step hb)
      replace hxa := Lib.hid (hxa.out.below hb)
      replace hxo := Lib.hid (hxo.out.below hb)
      clear hb hck k0 k1 k2 k3 k4 k5 k6 k7 k8 k9 k10 k11
      by_cases hz0 : z = 0
      · have d0 : (z == 0) = true := by simp [hz0]
        obtain ⟨rfl, rfl, rfl⟩ := HBAD.out k (HB2.out hz0)
        obtain rfl : nL = 0 := by have := HNL.out; simpa using this.symm
        have d1 : ((K : Int) == (K : Int)) = true := by simp
        clear hz0
        go_wp2_with fail
        refine (awake13_any _ (HR.out.below he.out.bel)).mono ?_
        rintro e w9 ⟨rfl, hb⟩
        have HBZ := Lib.hid (he.out.step hb).bel
        clear hb
        go_wp2
        go_ret
        exact ⟨rfl, HBZ.out⟩
      · have d0 : (z == 0) = false := by simp [hz0]
        have HGD3 := Lib.hid (HGD2.out hz0)
        clear hz0
        go_wp2
        go_roundw
        case rel => exact ⟨k + 1, by omega, by go_num, HGD3, he, hxa, hxo⟩
        case measure => simp [intOf]; omega
    · obtain rfl : k = n := by omega
      have hbn : badK T 0 xs = none := badK_all (fun j hj => hgd.out j (by rw [← HN.out]; exact hj))
      obtain ⟨hL, rfl⟩ := HEND.out hbn
      have HST : Hid (∀ y ∈ L, staT T y = 1 ∨ staT T y = 4) := by unfold Hid; rw [hL]; exact mapF_sta HM.out
      clear hbn hL hgd
      go_wp2
      go_loopw [55] (fun i wr => ∃ j : Nat, j ≤ nL ∧ i = .int .i64 j ∧ Hid (LEnv w g x T wr) ∧ Hid (IntsIn wr pL L)) (fun i _ => nL - (intOf i).toNat)
      case atStart => exact ⟨0, Nat.zero_le _, rfl, he, hxo⟩
      case round =>
        obtain ⟨j, hj, rfl, he, hxo⟩ := hrel
        by_cases hlt2 : j < nL
        · have hjl : j < L.length := by rw [HNL.out]; exact hlt2
          obtain ⟨b2, off2, rfl, hck⟩ := hxo.out j hjl
          obtain ⟨c, hc⟩ : ∃ c, L.getD j 0 = c := ⟨_, rfl⟩
          rw [hc] at hck
          obtain ⟨z, hz⟩ : ∃ z, Hid (staT T c = z) := ⟨_, rfl⟩
          have hz14 : z = 1 ∨ z = 4 := by have := HST.out c (by rw [← hc]; simp [hjl]); rwa [hz.out] at this
          clear hc
          obtain ⟨⟨k0, k1, k2, k3, k4, k5⟩, ⟨k6, k7, k8, k9, k10, k11⟩⟩ := he.out.box.load
          go_wp2_with fail
          refine (rstatus_at x T c z _ he.out.tab HSTA.out hz).mono ?_
          rintro e w5 ⟨rfl, hb⟩
          replace he := Lib.hid (he.out.step hb)
          replace hxo := Lib.hid (hxo.out.below hb)
          clear hb hck k0 k1 k2 k3 k4 k5 k6 k7 k8 k9 k10 k11 hz
          rcases hz14 with rfl | rfl
          all_goals
            go_wp2
            go_roundw
            case rel => exact ⟨j + 1, by omega, by go_num, he, hxo⟩
            case measure => simp [intOf]; omega
        · go_wp2_with fail
          refine (awake13_any _ (HR.out.below he.out.bel)).mono ?_
          rintro e w9 ⟨rfl, hb⟩
          have HBZ := Lib.hid (he.out.step hb).bel
          clear hb
          go_wp2
          go_ret
          exact ⟨rfl, HBZ.out⟩

end Go.Proofs.YtnmckcfaalakoaaDoor
