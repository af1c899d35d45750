/-
  The walk of ComposeShorter (genCW.py).
-/
import Derived.Test.YtcamkjafpnojkaaGreatDoorPkZU
import Derived.Test.YtcamkjafpnojkaaGreatDoorQTblQ
set_option linter.unusedSimpArgs false
set_option linter.unusedVariables false
namespace Go.Proofs.YtcamkjafpnojkaaGreatDoor
open Go.RowKit
set_option linter.unusedVariables false

set_option maxRecDepth 100000 in
set_option maxHeartbeats 8000000 in
theorem composeShorter_walk (p0 : Option Addr) (cap0 : Nat) (zs0 : List Int) (p1 : Option Addr) (cap1 : Nat) (zs1 : List Int) (w : World) (hin0 : IntsIn w p0 zs0) (hl0 : zs0.length ≤ 17592186043904) (hin1 : IntsIn w p1 zs1) (hl1 : zs1.length ≤ 17592186043904) (hr : Rsv w) :
    Calls Tryz.prog 9 #[.slice p0 zs0.length cap0, .slice p1 zs1.length cap1] w (Gives (.bool true) w) := by
  have HI0 := Lib.hid hin0
  have HL0 := Lib.hid hl0
  have HI1 := Lib.hid hin1
  have HL1 := Lib.hid hl1
  have HR := Lib.hid hr
  clear hin0 hl0 hin1 hl1 hr
  go_enter Tryz.func9, Tryz.ntmps9
  go_wp2_with fail
  refine (tables_any p0 cap0 zs0 _ HI0.out HL0.out).mono ?_
  rintro e w1 ⟨⟨a0, a1, a2, a3, a4, a5, a6, a7, a8, a9, a10, a11⟩, T, rfl, htv, hm, hcap1, hb1⟩
  obtain ⟨pa0, na0, qa0, hsl0⟩ : Slc a0 := htv.cat.slc
  subst hsl0
  obtain ⟨pa1, na1, qa1, hsl1⟩ : Slc a1 := htv.cls.slc
  subst hsl1
  obtain ⟨pa2, na2, qa2, hsl2⟩ : Slc a2 := htv.joi.slc
  subst hsl2
  obtain ⟨pa3, na3, qa3, hsl3⟩ : Slc a3 := htv.bid.slc
  subst hsl3
  obtain ⟨pa4, na4, qa4, hsl4⟩ : Slc a4 := htv.scr.slc
  subst hsl4
  obtain ⟨pa5, na5, qa5, hsl5⟩ : Slc a5 := htv.sta.slc
  subst hsl5
  obtain ⟨pa6, na6, qa6, hsl6⟩ : Slc a6 := htv.ign.slc
  subst hsl6
  obtain ⟨pa7, na7, qa7, hsl7⟩ : Slc a7 := htv.ext.slc
  subst hsl7
  obtain ⟨pa8, na8, qa8, hsl8⟩ : Slc a8 := htv.map.slc
  subst hsl8
  obtain ⟨pa9, na9, qa9, hsl9⟩ : Slc a9 := htv.dec.slc
  subst hsl9
  obtain ⟨pa10, na10, qa10, hsl10⟩ : Slc a10 := htv.exc.slc
  subst hsl10
  obtain ⟨pa11, na11, qa11, hsl11⟩ : Slc a11 := htv.pro.slc
  subst hsl11
  have hba1 : Below w1.heap.size w1 (w1.alloc (.cells (tabCells ⟨.slice pa0 na0 qa0, .slice pa1 na1 qa1, .slice pa2 na2 qa2, .slice pa3 na3 qa3, .slice pa4 na4 qa4, .slice pa5 na5 qa5, .slice pa6 na6 qa6, .slice pa7 na7 qa7, .slice pa8 na8 qa8, .slice pa9 na9 qa9, .slice pa10 na10 qa10, .slice pa11 na11 qa11⟩) 26)) := (Below.refl _ _).alloc (Nat.le_refl _) _
  have HT1 : Hid (TabV (w1.alloc (.cells (tabCells ⟨.slice pa0 na0 qa0, .slice pa1 na1 qa1, .slice pa2 na2 qa2, .slice pa3 na3 qa3, .slice pa4 na4 qa4, .slice pa5 na5 qa5, .slice pa6 na6 qa6, .slice pa7 na7 qa7, .slice pa8 na8 qa8, .slice pa9 na9 qa9, .slice pa10 na10 qa10, .slice pa11 na11 qa11⟩) 26)) ⟨.slice pa0 na0 qa0, .slice pa1 na1 qa1, .slice pa2 na2 qa2, .slice pa3 na3 qa3, .slice pa4 na4 qa4, .slice pa5 na5 qa5, .slice pa6 na6 qa6, .slice pa7 na7 qa7, .slice pa8 na8 qa8, .slice pa9 na9 qa9, .slice pa10 na10 qa10, .slice pa11 na11 qa11⟩ T) := htv.below hba1
  have HX1 : Hid (BoxT (w1.alloc (.cells (tabCells ⟨.slice pa0 na0 qa0, .slice pa1 na1 qa1, .slice pa2 na2 qa2, .slice pa3 na3 qa3, .slice pa4 na4 qa4, .slice pa5 na5 qa5, .slice pa6 na6 qa6, .slice pa7 na7 qa7, .slice pa8 na8 qa8, .slice pa9 na9 qa9, .slice pa10 na10 qa10, .slice pa11 na11 qa11⟩) 26)) w1.heap.size ⟨.slice pa0 na0 qa0, .slice pa1 na1 qa1, .slice pa2 na2 qa2, .slice pa3 na3 qa3, .slice pa4 na4 qa4, .slice pa5 na5 qa5, .slice pa6 na6 qa6, .slice pa7 na7 qa7, .slice pa8 na8 qa8, .slice pa9 na9 qa9, .slice pa10 na10 qa10, .slice pa11 na11 qa11⟩) := BoxT.new _ _ _
  have HB1 : Hid (Below w.heap.size w (w1.alloc (.cells (tabCells ⟨.slice pa0 na0 qa0, .slice pa1 na1 qa1, .slice pa2 na2 qa2, .slice pa3 na3 qa3, .slice pa4 na4 qa4, .slice pa5 na5 qa5, .slice pa6 na6 qa6, .slice pa7 na7 qa7, .slice pa8 na8 qa8, .slice pa9 na9 qa9, .slice pa10 na10 qa10, .slice pa11 na11 qa11⟩) 26))) := hb1.trans (hba1.mono hb1.size)
  have HM := Lib.hid hm
  have HCAP : Hid (CapOf ⟨.slice pa0 na0 qa0, .slice pa1 na1 qa1, .slice pa2 na2 qa2, .slice pa3 na3 qa3, .slice pa4 na4 qa4, .slice pa5 na5 qa5, .slice pa6 na6 qa6, .slice pa7 na7 qa7, .slice pa8 na8 qa8, .slice pa9 na9 qa9, .slice pa10 na10 qa10, .slice pa11 na11 qa11⟩) := hcap1
  clear htv hm hcap1 hb1 hba1
  simp only [tabCells] at HT1 HX1 HB1
  go_wp2_with fail
  generalize (w1.alloc (.cells #[.slice pa0 na0 qa0, .slice pa1 na1 qa1, .slice pa2 na2 qa2, .slice pa3 na3 qa3, .slice pa4 na4 qa4, .slice pa5 na5 qa5, .slice pa6 na6 qa6, .slice pa7 na7 qa7, .slice pa8 na8 qa8, .slice pa9 na9 qa9, .slice pa10 na10 qa10, .slice pa11 na11 qa11] 26)) = W at HT1 HX1 HB1 ⊢
  generalize w1.heap.size = g at HX1 ⊢
  generalize (⟨.slice pa0 na0 qa0, .slice pa1 na1 qa1, .slice pa2 na2 qa2, .slice pa3 na3 qa3, .slice pa4 na4 qa4, .slice pa5 na5 qa5, .slice pa6 na6 qa6, .slice pa7 na7 qa7, .slice pa8 na8 qa8, .slice pa9 na9 qa9, .slice pa10 na10 qa10, .slice pa11 na11 qa11⟩ : TV) = x at HT1 HX1 HCAP
  have HE : Hid (LEnv w g x T W) := ⟨HT1.out, HX1.out, HB1.out⟩
  clear HT1 HX1 HB1
  refine (dense_any p1 cap1 zs1 _ (HI1.out.below HE.out.bel) HL1.out).mono ?_
  rintro e wa ⟨xs, va, rfl, hna, hsa, hi, hb⟩
  obtain ⟨pa, ca, rfl, hia⟩ := hi.inn
  replace HE := Lib.hid (HE.out.step hb)
  have Ha := Lib.hid hia
  have HSa := Lib.hid hsa
  clear hi hb hia hsa
  have hex := nfd_small (T := T) HM.out.check HSa.out (by omega)
  obtain ⟨c, hc⟩ : ∃ c, nfcL T xs = c := ⟨_, rfl⟩
  obtain ⟨d, hd⟩ : ∃ d, nfdL T xs = d := ⟨_, rfl⟩
  have HEX := Lib.hid hex
  have HC := Lib.hid hc
  have HD := Lib.hid hd
  have a1 := nfc_shorter T xs
  rw [hc, hd] at a1
  have n1 := fun W (h1 : TabV W x T) h2 h3 => nfc_at x T pa ca xs 0 c W h1 h2 h3 (by omega) HEX HC
  have n2 := fun W (h1 : TabV W x T) h2 => rnfd_at x T pa ca xs 0 d W h1 HCAP.out h2 (by omega) HEX HD
  obtain ⟨na, hna⟩ : ∃ n, xs.length = n := ⟨_, rfl⟩
  obtain ⟨nc, hnc⟩ : ∃ n, c.length = n := ⟨_, rfl⟩
  obtain ⟨nd, hnd⟩ : ∃ n, d.length = n := ⟨_, rfl⟩
  rw [hna] at n1 n2 ⊢
  rw [hnc, hnd] at a1
  have N1 := Lib.hid n1
  have N2 := Lib.hid n2
  have HNC := Lib.hid hnc
  have HND := Lib.hid hnd
  have HLE : Hid (nc ≤ nd) := a1
  obtain ⟨m, hm⟩ : ∃ n, zs1.length = n := ⟨_, rfl⟩
  have hm2 := HL1.out
  rw [hm] at hm2 ⊢
  have HMM := Lib.hid hm
  have HM2 := Lib.hid hm2
  clear n1 n2 hna hnc hnd hc hd hex a1 HEX HC HD hm hm2
  obtain ⟨⟨k0, k1, k2, k3, k4, k5⟩, ⟨k6, k7, k8, k9, k10, k11⟩⟩ := HE.out.box.load
  go_wp2_with fail
  refine (N1.out _ HE.out.tab (HR.out.below HE.out.bel) Ha.out).mono ?_
  rintro e w4 ⟨v4, rfl, hi, hb⟩
  obtain ⟨p4, c4, e4, hi4⟩ := hi.inn
  rw [HNC.out] at e4
  subst e4
  replace HE := Lib.hid (HE.out.step hb)
  replace Ha := Lib.hid (Ha.out.below hb)
  clear hi hi4 hb k0 k1 k2 k3 k4 k5 k6 k7 k8 k9 k10 k11
  obtain ⟨⟨k0, k1, k2, k3, k4, k5⟩, ⟨k6, k7, k8, k9, k10, k11⟩⟩ := HE.out.box.load
  go_wp2_with fail
  refine (N2.out _ HE.out.tab Ha.out).mono ?_
  rintro e w5 ⟨v5, rfl, hi, hb⟩
  obtain ⟨p5, c5, e5, hi5⟩ := hi.inn
  rw [HND.out] at e5
  subst e5
  replace HE := Lib.hid (HE.out.step hb)
  clear hi hi5 hb k0 k1 k2 k3 k4 k5 k6 k7 k8 k9 k10 k11 Ha
  obtain ⟨wl, hwl⟩ : ∃ wl, w5 = wl := ⟨_, rfl⟩
  subst hwl
  have HSZ : Hid (w.heap.size ≤ w5.heap.size) := HE.out.bel.size
  have HE5 := HE
  have HB5 : Hid (Below w5.heap.size w5 w5) := Below.refl _ _
  go_wp2
  go_loopw [11, 32] (fun v i wr => ∃ (k : Nat) (xl : List Int), k ≤ m ∧ i = .int .i64 k ∧ xl.length ≤ 50 ∧ Hid (∀ c ∈ xl, 97 ≤ c ∧ c ≤ 122) ∧ Hid (Ints wr w5.heap.size v xl) ∧ Hid (Below w5.heap.size w5 wr)) (fun _ i _ => m - (intOf i).toNat)
  case atStart => exact ⟨0, [], Nat.zero_le _, rfl, by simp, fun c h => by simp at h, Ints.nil _ _, HB5⟩
  case round =>
    obtain ⟨k, xl, hk, rfl, hxl, hlet, hown, hbel⟩ := hrel
    have hm2 := HM2.out
    clear HE
    by_cases hlt : k < m
    · have hkl : k < zs1.length := by rw [HMM.out]; exact hlt
      obtain ⟨b, off, rfl, hck⟩ := (HI1.out.below (HE5.out.step hbel.out).bel) k hkl
      obtain ⟨z, hz⟩ : ∃ c, zs1.getD k 0 = c := ⟨_, rfl⟩
      rw [hz] at hck
      obtain ⟨pl, cl, hvl, hil⟩ := hown.out.inn
      obtain ⟨nl, hnl⟩ : ∃ n, xl.length = n := ⟨_, rfl⟩
      rw [hnl] at hvl hxl
      have HNL := Lib.hid hnl
      clear hz hnl hil
      subst hvl
      by_cases h50 : nl < 50
      · have d1 : decide ((nl : Int) < 50) = true := decide_eq_true (by omega)
        obtain ⟨q, HQ, hq26⟩ := pickN_nm z 26 (by omega)
        obtain ⟨t, ht⟩ : ∃ t : Int, 97 + (q : Int) = t := ⟨_, rfl⟩
        have ht2 : IntKind.i64.wrap t = t := IntWalk.i64_in _ (by omega)
        have HTT : Hid (97 ≤ t ∧ t ≤ 122) := by unfold Hid; omega
        have h51 : nl + 1 ≤ 50 := by omega
        clear h50
        go_wp2_with fail
        refine (pickN_at z 26 q _ (by omega) (by omega) HQ).mono ?_
        rintro e w6 ⟨rfl, rfl⟩
        have HLI := Lib.hid (lit_ints wr #[.int .i64 t] [t] 3 rfl)
        have HOA : Hid (Ints (wr.alloc (.cells #[.int .i64 t] 3)) w5.heap.size (.slice pl nl cl) xl) := hown.out.alloc _
        have hsz : w5.heap.size ≤ (wr.alloc (.cells #[.int .i64 t] 3)).heap.size := by have := hbel.out.size; simp; omega
        have HBA := Lib.hid (hbel.out.alloc hbel.out.size (.cells #[.int .i64 t] 3))
        go_wp2_with (at_builtin; (refine wpList_append_ints _ _ rfl rfl w5.heap.size (.slice pl nl cl) xl rfl HOA.out (some ⟨wr.heap.size, 0, none⟩) 1 1 [t] rfl rfl HLI.out (by rw [HNL.out]; simp; omega) hsz ?_); intro v7 w7 ho7 hg7)
        have HB7 : Hid (Below w5.heap.size w5 w7) := below_appI HBA.out HOA.out (Nat.le_refl _) hg7
        have HO7 := Lib.hid ho7
        have HL7 : Hid (∀ c ∈ xl ++ [t], 97 ≤ c ∧ c ≤ 122) := by
          intro c hcm
          rcases List.mem_append.1 hcm with h | h
          · exact hlet.out c h
          · simp at h; rw [h]; exact HTT.out
        have hl7 : (xl ++ [t]).length ≤ 50 := by simp; rw [HNL.out]; omega
        clear ho7 hg7 hsz ht ht2
        go_wp2
        go_roundw
        case rel => exact ⟨k + 1, xl ++ [t], by omega, by go_num, hl7, HL7, HO7, HB7⟩
        case measure => simp [intOf]; omega
      · have d1 : decide ((nl : Int) < 50) = false := decide_eq_false (by omega)
        have hl7 : xl.length ≤ 50 := by rw [HNL.out]; exact hxl
        go_wp2
        go_roundw
        case rel => exact ⟨k + 1, xl, by omega, by go_num, hl7, hlet, hown, hbel⟩
        case measure => simp [intOf]; omega
    · have HE := Lib.hid (HE5.out.step hbel.out)
      obtain ⟨pl, cl, hvl, hil⟩ := hown.out.inn
      have hlet2 := letters_nfc HM.out xl hlet.out (by omega)
      have Q1 : Hid (quickT T xl = 1) := hlet2.1
      have Q2 : Hid (isnC T xl = true) := hlet2.2
      have n3 := fun W (h1 : TabV W x T) h2 h3 => isnfc_at x T pl cl xl true W h1 h2 h3 (by omega) Q2
      have n4 := fun W (h1 : TabV W x T) h2 h3 => quick_at x T pl cl xl 1 W h1 h2 h3 (by omega) Q1
      obtain ⟨nl, hnl⟩ : ∃ n, xl.length = n := ⟨_, rfl⟩
      rw [hnl] at hvl n3 n4
      have N3 := Lib.hid n3
      have N4 := Lib.hid n4
      have HIL := Lib.hid hil
      subst hvl
      have d2 : decide ((nc : Int) ≤ (nd : Int)) = true := decide_eq_true (by have := HLE.out; omega)
      clear hlet2 n3 n4 hil hnl
      go_wp2_with fail
      refine (awake8_any _ (HR.out.below HE.out.bel)).mono ?_
      rintro e w9 ⟨rfl, hb⟩
      have HE9 := Lib.hid (HE.out.step hb)
      have HI9 := Lib.hid (HIL.out.below hb)
      clear hb
      obtain ⟨⟨k0, k1, k2, k3, k4, k5⟩, ⟨k6, k7, k8, k9, k10, k11⟩⟩ := HE9.out.box.load
      go_wp2_with fail
      refine (N3.out _ HE9.out.tab (HR.out.below HE9.out.bel) HI9.out).mono ?_
      rintro e w10 ⟨rfl, hb⟩
      replace HE9 := Lib.hid (HE9.out.step hb)
      replace HI9 := Lib.hid (HI9.out.below hb)
      clear hb k0 k1 k2 k3 k4 k5 k6 k7 k8 k9 k10 k11
      obtain ⟨⟨k0, k1, k2, k3, k4, k5⟩, ⟨k6, k7, k8, k9, k10, k11⟩⟩ := HE9.out.box.load
      go_wp2_with fail
      refine (N4.out _ HE9.out.tab (HR.out.below HE9.out.bel) HI9.out).mono ?_
      rintro e w11 ⟨rfl, hb⟩
      have HB := Lib.hid (HE9.out.step hb).bel
      clear hb k0 k1 k2 k3 k4 k5 k6 k7 k8 k9 k10 k11
      go_wp2
      go_ret
      exact ⟨rfl, HB.out⟩

end Go.Proofs.YtcamkjafpnojkaaGreatDoor
