/-
  The walk of DecomposeTwice (genDL.py).
-/
import Derived.Test.YtgekoeobllhnnaaGreatDoorPkZR
import Derived.Test.YtgekoeobllhnnaaGreatDoorQTblQ
import Derived.Test.YtgekoeobllhnnaaGreatDoorQTblR
import Derived.Test.YtgekoeobllhnnaaGreatDoorPkY
import Derived.Deep.RegionHeld3
set_option linter.unusedSimpArgs false
set_option linter.unusedVariables false
namespace Go.Proofs.YtgekoeobllhnnaaGreatDoor
open Go.RowKit
set_option linter.unusedVariables false

set_option maxRecDepth 100000 in
set_option maxHeartbeats 8000000 in
theorem decomposeTwice_walk (p0 : Option Addr) (cap0 : Nat) (zs0 : List Int) (p1 : Option Addr) (cap1 : Nat) (zs1 : List Int) (w : World) (hin0 : IntsIn w p0 zs0) (hl0 : zs0.length ≤ 17592186043904) (hin1 : IntsIn w p1 zs1) (hl1 : zs1.length ≤ 17592186043904) (hr : Rsv w) :
    Calls Tryz.prog 5 #[.slice p0 zs0.length cap0, .slice p1 zs1.length cap1] w (Gives (.bool true) w) := by
  have HI0 := Lib.hid hin0
  have HL0 := Lib.hid hl0
  have HI1 := Lib.hid hin1
  have HL1 := Lib.hid hl1
  have HR := Lib.hid hr
  clear hin0 hl0 hin1 hl1 hr
  go_enter Tryz.func5, Tryz.ntmps5
  go_wp2_with fail
  refine (tables_any p0 cap0 zs0 _ HI0.out HL0.out).mono ?_
  rintro e w1 ⟨⟨a0, a1, a2, a3, a4, a5, a6, a7, a8, a9, a10, a11⟩, T, rfl, htv, hm, hcap1, hb1⟩
  obtain ⟨pa0, na0, qa0, hsl0⟩ : Slc a0 := htv.cat.slc
  subst hsl0
  obtain ⟨pa1, na1, qa1, hsl1⟩ : Slc a1 := htv.cls.slc
  subst hsl1
  obtain ⟨pa2, na2, qa2, hsl2⟩ : Slc a2 := htv.joi.slc
  subst hsl2
  obtain ⟨pa3, na3, qa3, hsl3⟩ : Slc a3 := htv.bid.slc
  subst hsl3
  obtain ⟨pa4, na4, qa4, hsl4⟩ : Slc a4 := htv.scr.slc
  subst hsl4
  obtain ⟨pa5, na5, qa5, hsl5⟩ : Slc a5 := htv.sta.slc
  subst hsl5
  obtain ⟨pa6, na6, qa6, hsl6⟩ : Slc a6 := htv.ign.slc
  subst hsl6
  obtain ⟨pa7, na7, qa7, hsl7⟩ : Slc a7 := htv.ext.slc
  subst hsl7
  obtain ⟨pa8, na8, qa8, hsl8⟩ : Slc a8 := htv.map.slc
  subst hsl8
  obtain ⟨pa9, na9, qa9, hsl9⟩ : Slc a9 := htv.dec.slc
  subst hsl9
  obtain ⟨pa10, na10, qa10, hsl10⟩ : Slc a10 := htv.exc.slc
  subst hsl10
  obtain ⟨pa11, na11, qa11, hsl11⟩ : Slc a11 := htv.pro.slc
  subst hsl11
  have hba1 : Below w1.heap.size w1 (w1.alloc (.cells (tabCells ⟨.slice pa0 na0 qa0, .slice pa1 na1 qa1, .slice pa2 na2 qa2, .slice pa3 na3 qa3, .slice pa4 na4 qa4, .slice pa5 na5 qa5, .slice pa6 na6 qa6, .slice pa7 na7 qa7, .slice pa8 na8 qa8, .slice pa9 na9 qa9, .slice pa10 na10 qa10, .slice pa11 na11 qa11⟩) 26)) := (Below.refl _ _).alloc (Nat.le_refl _) _
  have HT1 : Hid (TabV (w1.alloc (.cells (tabCells ⟨.slice pa0 na0 qa0, .slice pa1 na1 qa1, .slice pa2 na2 qa2, .slice pa3 na3 qa3, .slice pa4 na4 qa4, .slice pa5 na5 qa5, .slice pa6 na6 qa6, .slice pa7 na7 qa7, .slice pa8 na8 qa8, .slice pa9 na9 qa9, .slice pa10 na10 qa10, .slice pa11 na11 qa11⟩) 26)) ⟨.slice pa0 na0 qa0, .slice pa1 na1 qa1, .slice pa2 na2 qa2, .slice pa3 na3 qa3, .slice pa4 na4 qa4, .slice pa5 na5 qa5, .slice pa6 na6 qa6, .slice pa7 na7 qa7, .slice pa8 na8 qa8, .slice pa9 na9 qa9, .slice pa10 na10 qa10, .slice pa11 na11 qa11⟩ T) := htv.below hba1
  have HX1 : Hid (BoxT (w1.alloc (.cells (tabCells ⟨.slice pa0 na0 qa0, .slice pa1 na1 qa1, .slice pa2 na2 qa2, .slice pa3 na3 qa3, .slice pa4 na4 qa4, .slice pa5 na5 qa5, .slice pa6 na6 qa6, .slice pa7 na7 qa7, .slice pa8 na8 qa8, .slice pa9 na9 qa9, .slice pa10 na10 qa10, .slice pa11 na11 qa11⟩) 26)) w1.heap.size ⟨.slice pa0 na0 qa0, .slice pa1 na1 qa1, .slice pa2 na2 qa2, .slice pa3 na3 qa3, .slice pa4 na4 qa4, .slice pa5 na5 qa5, .slice pa6 na6 qa6, .slice pa7 na7 qa7, .slice pa8 na8 qa8, .slice pa9 na9 qa9, .slice pa10 na10 qa10, .slice pa11 na11 qa11⟩) := BoxT.new _ _ _
  have HB1 : Hid (Below w.heap.size w (w1.alloc (.cells (tabCells ⟨.slice pa0 na0 qa0, .slice pa1 na1 qa1, .slice pa2 na2 qa2, .slice pa3 na3 qa3, .slice pa4 na4 qa4, .slice pa5 na5 qa5, .slice pa6 na6 qa6, .slice pa7 na7 qa7, .slice pa8 na8 qa8, .slice pa9 na9 qa9, .slice pa10 na10 qa10, .slice pa11 na11 qa11⟩) 26))) := hb1.trans (hba1.mono hb1.size)
  have HM := Lib.hid hm
  have HCAP : Hid (CapOf ⟨.slice pa0 na0 qa0, .slice pa1 na1 qa1, .slice pa2 na2 qa2, .slice pa3 na3 qa3, .slice pa4 na4 qa4, .slice pa5 na5 qa5, .slice pa6 na6 qa6, .slice pa7 na7 qa7, .slice pa8 na8 qa8, .slice pa9 na9 qa9, .slice pa10 na10 qa10, .slice pa11 na11 qa11⟩) := hcap1
  clear htv hm hcap1 hb1 hba1
  simp only [tabCells] at HT1 HX1 HB1
  go_upto_region 2 with (fail)
  generalize (w1.alloc (.cells #[.slice pa0 na0 qa0, .slice pa1 na1 qa1, .slice pa2 na2 qa2, .slice pa3 na3 qa3, .slice pa4 na4 qa4, .slice pa5 na5 qa5, .slice pa6 na6 qa6, .slice pa7 na7 qa7, .slice pa8 na8 qa8, .slice pa9 na9 qa9, .slice pa10 na10 qa10, .slice pa11 na11 qa11] 26)) = W at HT1 HX1 HB1 ⊢
  generalize w1.heap.size = g at HX1 ⊢
  generalize (⟨.slice pa0 na0 qa0, .slice pa1 na1 qa1, .slice pa2 na2 qa2, .slice pa3 na3 qa3, .slice pa4 na4 qa4, .slice pa5 na5 qa5, .slice pa6 na6 qa6, .slice pa7 na7 qa7, .slice pa8 na8 qa8, .slice pa9 na9 qa9, .slice pa10 na10 qa10, .slice pa11 na11 qa11⟩ : TV) = x at HT1 HX1 HCAP
  have HE : Hid (LEnv w g x T W) := ⟨HT1.out, HX1.out, HB1.out⟩
  clear HT1 HX1 HB1
  obtain ⟨m, hm⟩ : ∃ m, zs1.length = m := ⟨_, rfl⟩
  have hpt := fun W h1 => points_any p1 cap1 zs1 W h1 HL1.out
  rw [hm] at hpt ⊢
  have HPT := Lib.hid hpt
  have e0 := HE.out.step (drew_one W)
  have HE0 := Lib.hid e0
  clear hpt hm e0
  obtain ⟨⟨k0, k1, k2, k3, k4, k5⟩, ⟨k6, k7, k8, k9, k10, k11⟩⟩ := HE.out.box.load
  go_cut [6, 7] (fun a b wx => ∃ (xs X : List Int) (pX : Option Addr) (nX cX : Nat), a = .slice pX nX cX ∧ b = .int .i64 0 ∧ Hid (nfdE T xs = 0) ∧ Hid (nfdL T xs = X) ∧ Hid (X.length = nX) ∧ Hid (IntsIn wx pX X) ∧ Hid (LEnv w g x T wx))
  case first =>
    go_region_held3 (boxF g x)
      (first
        | exact HE0.out.box.flat
        | exact (HE0.out.step hb3).box.flat
        | exact ((HE0.out.step hb3).step hb4).box.flat)
      (first
        | (go_at_call 9; (with_reducible refine (HPT.out _ (HI1.out.below HE0.out.bel)).mono ?_); rintro e w3 ⟨xs, v3, rfl, hn3, hs3, hi3, hb3⟩; obtain ⟨p3, c3, e3, h3⟩ := hi3.inn; subst e3; have hz1 : Hid (nfdE T xs = 0) := nfd_small HM.out.check hs3 (by omega); obtain ⟨X, hz2⟩ : ∃ X, Hid (nfdL T xs = X) := ⟨_, rfl⟩)
        | (go_at_call 16; (with_reducible refine (nfd_at x T p3 c3 xs 0 X _ (HE0.out.step hb3).tab (HR.out.below (HE0.out.step hb3).bel) h3 (by omega) hz1 hz2).mono ?_); rintro e w4 ⟨v4, rfl, ho4, hb4⟩; obtain ⟨pX, cX, e5, h5⟩ := ho4.inn; subst e5)
        | fail)
    all_goals
      have hf := ((HE0.out.step hb3).step hb4)
      try (go_wp2_with fail)
      go_meet
      exact ⟨xs, X, pX, _, cX, rfl, rfl, hz1, hz2, rfl, h5, hf⟩
  case rest =>
    obtain ⟨xs, X, pX, nX, cX, rfl, rfl, HEX, HLX, HNX, HX, HE⟩ := hcut
    generalize wc = W1 at HX HE ⊢
    clear HE0 HPT
    have htw := nfd_twice HEX.out
    rw [HLX.out] at htw
    have HXB : Hid (X.length ≤ 17592186043904) := by unfold Hid; rw [← HLX.out]; have := nfdL_len T xs; omega
    have HX1 : Hid (nfdE T X = 0) := htw.1
    have HX2 : Hid (nfdL T X = X) := htw.2
    have HX3 : Hid (isnB T X = true) := by have := isn_nfd HEX.out; rwa [HLX.out] at this
    have HFI : Hid (∀ y ∈ X, Fin1 T y) := by have := nfd_fin HEX.out; rwa [HLX.out] at this
    have HXX : Hid ((X == X) = true) := by simp [Hid]
    have hnf := fun W (h1 : TabV W x T) h2 h3 => nfd_at x T pX cX X 0 X W h1 h2 h3 HXB.out HX1 HX2
    have his := fun W (h1 : TabV W x T) h2 h3 => isnfd_at x T pX cX X true W h1 h2 h3 HXB.out HX3
    rw [HNX.out] at hnf his
    have HNF := Lib.hid hnf
    have HIS := Lib.hid his
    have hnb : nX ≤ 4096 := by rw [← HNX.out, ← HLX.out]; exact nfdL_len T xs
    clear htw hnf his HEX HLX
    obtain ⟨⟨k0, k1, k2, k3, k4, k5⟩, ⟨k6, k7, k8, k9, k10, k11⟩⟩ := HE.out.box.load
    go_wp2_with fail
    refine (HNF.out _ HE.out.tab (HR.out.below HE.out.bel) HX.out).mono ?_
    rintro e w4 ⟨v4, rfl, ho4, hb⟩
    replace HE := Lib.hid (HE.out.step hb)
    replace HX := Lib.hid (HX.out.below hb)
    have HO4 := Lib.hid ho4
    clear ho4 hb k0 k1 k2 k3 k4 k5 k6 k7 k8 k9 k10 k11
    go_wp2_with fail
    refine (same_at (.slice pX nX cX) v4 X X true _ (slice_inV HNX.out (by omega) HX.out) (HO4.out.inV HXB.out) HXX).mono ?_
    rintro e w5 ⟨rfl, hb⟩
    replace HE := Lib.hid (HE.out.step hb)
    replace HX := Lib.hid (HX.out.below hb)
    clear hb
    obtain ⟨⟨k0, k1, k2, k3, k4, k5⟩, ⟨k6, k7, k8, k9, k10, k11⟩⟩ := HE.out.box.load
    go_wp2_with fail
    refine (HIS.out _ HE.out.tab (HR.out.below HE.out.bel) HX.out).mono ?_
    rintro e w6 ⟨rfl, hb⟩
    replace HE := Lib.hid (HE.out.step hb)
    replace HX := Lib.hid (HX.out.below hb)
    clear hb k0 k1 k2 k3 k4 k5 k6 k7 k8 k9 k10 k11 HO4
    go_wp2
    go_loopw [11, 47] (fun _ i wr => ∃ k : Nat, k ≤ nX ∧ i = .int .i64 k ∧ Hid (LEnv w g x T wr) ∧ Hid (IntsIn wr pX X)) (fun _ i _ => nX - (intOf i).toNat)
    case atStart => exact ⟨0, Nat.zero_le _, rfl, HE, HX⟩
    case round =>
      obtain ⟨k, hk, rfl, he, hxi⟩ := hrel
      by_cases hlt : k < nX
      · have hkl : k < X.length := by rw [HNX.out]; exact hlt
        obtain ⟨b, off, rfl, hck⟩ := hxi.out k hkl
        obtain ⟨c, hc⟩ : ∃ c, X.getD k 0 = c := ⟨_, rfl⟩
        have hfin : Fin1 T c := HFI.out c (by rw [← hc]; simp [hkl])
        have HD1 : Hid (findM T.dec c = []) := hfin.2.1
        have HD2 : Hid (decS c = []) := hfin.2.2
        rw [hc] at hck
        clear hfin hc
        obtain ⟨⟨k0, k1, k2, k3, k4, k5⟩, ⟨k6, k7, k8, k9, k10, k11⟩⟩ := he.out.box.load
        go_wp2_with fail
        refine (rdecomp_at x T c [] _ he.out.tab HD1).mono ?_
        rintro e w7 ⟨p7, m7, c7, rfl, hl7, hm7, hi7, hb⟩
        obtain rfl : m7 = 0 := by simpa using hl7.symm
        replace he := Lib.hid (he.out.step hb)
        replace hxi := Lib.hid (hxi.out.below hb)
        clear hl7 hm7 hi7 hb k0 k1 k2 k3 k4 k5 k6 k7 k8 k9 k10 k11
        go_wp2_with fail
        refine (rhdec_at c [] _ HD2).mono ?_
        rintro e w8 ⟨p8, c8, rfl, hi8, hb⟩
        replace he := Lib.hid (he.out.step hb)
        replace hxi := Lib.hid (hxi.out.below hb)
        clear hi8 hb
        simp only [List.length_nil]
        go_wp2
        go_roundw
        case rel => exact ⟨k + 1, by omega, by go_num, he, hxi⟩
        case measure => simp [intOf]; omega
      · go_wp2_with fail
        refine (awake7_any _ (HR.out.below he.out.bel)).mono ?_
        rintro e w7 ⟨rfl, hb⟩
        have HB := Lib.hid (he.out.step hb).bel
        clear hb
        go_wp2
        go_ret
        exact ⟨rfl, HB.out⟩

end Go.Proofs.YtgekoeobllhnnaaGreatDoor
