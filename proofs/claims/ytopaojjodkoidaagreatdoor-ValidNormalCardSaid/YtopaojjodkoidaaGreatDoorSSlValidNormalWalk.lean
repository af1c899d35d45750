/-
  The walk of ValidNormal (genVW.py).
-/
import Derived.Test.YtopaojjodkoidaaGreatDoorSSlPkZZO
import Derived.Test.YtopaojjodkoidaaGreatDoorSSlValR
import Derived.Test.YtopaojjodkoidaaGreatDoorSSlPkZZG
import Derived.Test.YtopaojjodkoidaaGreatDoorSSlPkZU
import Derived.Test.YtopaojjodkoidaaGreatDoorSSlTblQ
import Derived.Test.YtopaojjodkoidaaGreatDoorSSlPkZZS
import Derived.Test.YtopaojjodkoidaaGreatDoorSSlKeepWordT
import Derived.Deep.RegionHeld3
set_option linter.unusedSimpArgs false
set_option linter.unusedVariables false
namespace Go.Proofs.YtopaojjodkoidaaGreatDoor
open Go.RowKit
set_option linter.unusedVariables false

theorem slice_inVN {w : World} {p : Option Addr} {n c : Nat} {fl : List Int} (hl : fl.length = n) (hn : n ≤ 17592186043904) (hi : IntsIn w p fl) : InV w (.slice p n c) fl := ⟨p, c, by rw [hl], hi, by omega⟩
/-- The made tables, a word, its normalization form, and the word's first cell. -/
structure NrmV (w0 : World) (g : Nat) (x : TV) (T : Tb) (b off : Nat) (c : Int) (q : Option Addr) (xa : List Int) (w : World) : Prop where
  l : LEnv w0 g x T w
  a : IntsIn w (some ⟨b, off, none⟩) xa
  y : IntsIn w q xa
  k : w.cell? ⟨b, off, none⟩ = some (.int .i64 c)
theorem NrmV.step {w0 w w' : World} {g : Nat} {x : TV} {T : Tb} {b off : Nat} {c : Int} {q : Option Addr} {xa : List Int} (h : NrmV w0 g x T b off c q xa w) (hb : Below w.heap.size w w') : NrmV w0 g x T b off c q xa w' :=
  ⟨h.l.step hb, h.a.below hb, h.y.below hb, (hb.cell (p := ⟨b, off, none⟩) (World.block_lt_of_cell? w _ h.k)).trans h.k⟩
abbrev boxCell (g : Nat) (x : TV) (b off : Nat) (c : Int) (w : World) : Prop := boxF g x w ∧ w.cell? ⟨b, off, none⟩ = some (.int .i64 c)
theorem NrmV.flat {w0 w : World} {g : Nat} {x : TV} {T : Tb} {b off : Nat} {c : Int} {q : Option Addr} {xa : List Int} (h : NrmV w0 g x T b off c q xa w) : boxCell g x b off c w := ⟨h.l.box.flat, h.k⟩

set_option maxRecDepth 100000 in
set_option maxHeartbeats 8000000 in
theorem validNormal_walk (p0 : Option Addr) (cap0 : Nat) (zs0 : List Int) (p1 : Option Addr) (cap1 : Nat) (zs1 : List Int) (w : World) (hin0 : IntsIn w p0 zs0) (hl0 : zs0.length ≤ 17592186043904) (hin1 : IntsIn w p1 zs1) (hl1 : zs1.length ≤ 17592186043904) (hr : Rsv w) :
    Calls Tryz.prog 6 #[.slice p0 zs0.length cap0, .slice p1 zs1.length cap1] w (Gives (.bool true) w) := by
  have HI0 := Lib.hid hin0
  have HL0 := Lib.hid hl0
  have HI1 := Lib.hid hin1
  have HL1 := Lib.hid hl1
  have HR := Lib.hid hr
  clear hin0 hl0 hin1 hl1 hr
  go_enter Tryz.func6, Tryz.ntmps6
  go_wp2_with fail
  refine (tables_any p0 cap0 zs0 _ HI0.out HL0.out).mono ?_
  rintro e w1 ⟨⟨a0, a1, a2, a3, a4, a5, a6, a7, a8, a9, a10, a11⟩, T, rfl, htv, hm, hcap1, hb1⟩
  obtain ⟨pa0, na0, qa0, hsl0⟩ : Slc a0 := htv.cat.slc
  subst hsl0
  obtain ⟨pa1, na1, qa1, hsl1⟩ : Slc a1 := htv.cls.slc
  subst hsl1
  obtain ⟨pa2, na2, qa2, hsl2⟩ : Slc a2 := htv.joi.slc
  subst hsl2
  obtain ⟨pa3, na3, qa3, hsl3⟩ : Slc a3 := htv.bid.slc
  subst hsl3
  obtain ⟨pa4, na4, qa4, hsl4⟩ : Slc a4 := htv.scr.slc
  subst hsl4
  obtain ⟨pa5, na5, qa5, hsl5⟩ : Slc a5 := htv.sta.slc
  subst hsl5
  obtain ⟨pa6, na6, qa6, hsl6⟩ : Slc a6 := htv.ign.slc
  subst hsl6
  obtain ⟨pa7, na7, qa7, hsl7⟩ : Slc a7 := htv.ext.slc
  subst hsl7
  obtain ⟨pa8, na8, qa8, hsl8⟩ : Slc a8 := htv.map.slc
  subst hsl8
  obtain ⟨pa9, na9, qa9, hsl9⟩ : Slc a9 := htv.dec.slc
  subst hsl9
  obtain ⟨pa10, na10, qa10, hsl10⟩ : Slc a10 := htv.exc.slc
  subst hsl10
  obtain ⟨pa11, na11, qa11, hsl11⟩ : Slc a11 := htv.pro.slc
  subst hsl11
  have hba1 : Below w1.heap.size w1 (w1.alloc (.cells (tabCells ⟨.slice pa0 na0 qa0, .slice pa1 na1 qa1, .slice pa2 na2 qa2, .slice pa3 na3 qa3, .slice pa4 na4 qa4, .slice pa5 na5 qa5, .slice pa6 na6 qa6, .slice pa7 na7 qa7, .slice pa8 na8 qa8, .slice pa9 na9 qa9, .slice pa10 na10 qa10, .slice pa11 na11 qa11⟩) 26)) := (Below.refl _ _).alloc (Nat.le_refl _) _
  have HT1 : Hid (TabV (w1.alloc (.cells (tabCells ⟨.slice pa0 na0 qa0, .slice pa1 na1 qa1, .slice pa2 na2 qa2, .slice pa3 na3 qa3, .slice pa4 na4 qa4, .slice pa5 na5 qa5, .slice pa6 na6 qa6, .slice pa7 na7 qa7, .slice pa8 na8 qa8, .slice pa9 na9 qa9, .slice pa10 na10 qa10, .slice pa11 na11 qa11⟩) 26)) ⟨.slice pa0 na0 qa0, .slice pa1 na1 qa1, .slice pa2 na2 qa2, .slice pa3 na3 qa3, .slice pa4 na4 qa4, .slice pa5 na5 qa5, .slice pa6 na6 qa6, .slice pa7 na7 qa7, .slice pa8 na8 qa8, .slice pa9 na9 qa9, .slice pa10 na10 qa10, .slice pa11 na11 qa11⟩ T) := htv.below hba1
  have HX1 : Hid (BoxT (w1.alloc (.cells (tabCells ⟨.slice pa0 na0 qa0, .slice pa1 na1 qa1, .slice pa2 na2 qa2, .slice pa3 na3 qa3, .slice pa4 na4 qa4, .slice pa5 na5 qa5, .slice pa6 na6 qa6, .slice pa7 na7 qa7, .slice pa8 na8 qa8, .slice pa9 na9 qa9, .slice pa10 na10 qa10, .slice pa11 na11 qa11⟩) 26)) w1.heap.size ⟨.slice pa0 na0 qa0, .slice pa1 na1 qa1, .slice pa2 na2 qa2, .slice pa3 na3 qa3, .slice pa4 na4 qa4, .slice pa5 na5 qa5, .slice pa6 na6 qa6, .slice pa7 na7 qa7, .slice pa8 na8 qa8, .slice pa9 na9 qa9, .slice pa10 na10 qa10, .slice pa11 na11 qa11⟩) := BoxT.new _ _ _
  have HB1 : Hid (Below w.heap.size w (w1.alloc (.cells (tabCells ⟨.slice pa0 na0 qa0, .slice pa1 na1 qa1, .slice pa2 na2 qa2, .slice pa3 na3 qa3, .slice pa4 na4 qa4, .slice pa5 na5 qa5, .slice pa6 na6 qa6, .slice pa7 na7 qa7, .slice pa8 na8 qa8, .slice pa9 na9 qa9, .slice pa10 na10 qa10, .slice pa11 na11 qa11⟩) 26))) := hb1.trans (hba1.mono hb1.size)
  have HM := Lib.hid hm
  have HCAP : Hid (CapOf ⟨.slice pa0 na0 qa0, .slice pa1 na1 qa1, .slice pa2 na2 qa2, .slice pa3 na3 qa3, .slice pa4 na4 qa4, .slice pa5 na5 qa5, .slice pa6 na6 qa6, .slice pa7 na7 qa7, .slice pa8 na8 qa8, .slice pa9 na9 qa9, .slice pa10 na10 qa10, .slice pa11 na11 qa11⟩) := hcap1
  clear htv hm hcap1 hb1 hba1
  simp only [tabCells] at HT1 HX1 HB1
  go_wp2_with fail
  generalize (w1.alloc (.cells #[.slice pa0 na0 qa0, .slice pa1 na1 qa1, .slice pa2 na2 qa2, .slice pa3 na3 qa3, .slice pa4 na4 qa4, .slice pa5 na5 qa5, .slice pa6 na6 qa6, .slice pa7 na7 qa7, .slice pa8 na8 qa8, .slice pa9 na9 qa9, .slice pa10 na10 qa10, .slice pa11 na11 qa11] 26)) = W at HT1 HX1 HB1 ⊢
  generalize w1.heap.size = g at HX1 ⊢
  generalize (⟨.slice pa0 na0 qa0, .slice pa1 na1 qa1, .slice pa2 na2 qa2, .slice pa3 na3 qa3, .slice pa4 na4 qa4, .slice pa5 na5 qa5, .slice pa6 na6 qa6, .slice pa7 na7 qa7, .slice pa8 na8 qa8, .slice pa9 na9 qa9, .slice pa10 na10 qa10, .slice pa11 na11 qa11⟩ : TV) = x at HT1 HX1 HCAP
  have HE : Hid (LEnv w g x T W) := ⟨HT1.out, HX1.out, HB1.out⟩
  clear HT1 HX1 HB1
  obtain ⟨xa, hXa⟩ : ∃ m, Hid (wordF zs1 = m) := ⟨_, rfl⟩
  have hna : xa.length ≤ 6 := by have := (wordF_len zs1).2; rwa [hXa.out] at this
  have HSa : Hid (xa.all scaB = true) := by unfold Hid; rw [← hXa.out]; exact wordF_sca zs1
  refine (kwordsN_at p1 zs1.length cap1 zs1 xa _ (HI1.out.below HE.out.bel) (Lib.hid rfl) HL1.out hXa).mono ?_
  rintro e wa ⟨va, rfl, hi, hb⟩
  obtain ⟨pa, ca, rfl, hia⟩ := hi.inn
  replace HE := Lib.hid (HE.out.step hb)
  have Ha := Lib.hid hia
  clear hi hb hia hXa
  obtain ⟨V, hV⟩ : ∃ V, Hid (valR T xa = V) := ⟨_, rfl⟩
  have hv1 := fun W (h1 : TabV W x T) h2 h3 => vchk_at x T pa ca xa V W h1 h2 h3 (by omega) hV
  have hv2 := fun W (h1 : TabV W x T) h3 => rchk_at x T pa ca xa V W h1 HCAP.out h3 (by omega) hV
  obtain ⟨z, hz⟩ : ∃ z, Hid (catT T (xa.getD 0 0) = z) := ⟨_, rfl⟩
  have HSC : Hid (spOk T.cat = true) := by have h := (check_rules HM.out.check).2.1; simp only [r2, spansT, List.all_cons, List.all_nil, Bool.and_eq_true] at h; exact h.1.1
  have HNO : Hid (V = 0 → nfdE T xa = 0 ∧ nfcL T xa = xa ∧ stbB T xa = true ∧ xa ≠ [] ∧ z ≠ 2) := fun h => by
    rw [← hz.out]; exact val_normal (hV.out.trans h)
  have hnf := fun (he : V = 0) W (h1 : TabV W x T) h3 => rnfc_at x T pa ca xa 0 xa W h1 HCAP.out h3 (by omega) (Lib.hid (HNO.out he).1) (Lib.hid (HNO.out he).2.1)
  have hsb := fun (he : V = 0) p W (h1 : TabV W x T) h3 => rstable_at x T p ca xa true W h1 HCAP.out h3 (by omega) (Lib.hid (HNO.out he).2.2.1)
  obtain ⟨n, hn⟩ : ∃ n, xa.length = n := ⟨_, rfl⟩
  rw [hn] at hv1 hv2 hnf hsb hna ⊢
  have HV1 := Lib.hid hv1
  have HV2 := Lib.hid hv2
  have HNF := Lib.hid hnf
  have HSB := Lib.hid hsb
  have HN := Lib.hid hn
  have HL4 : Hid (n ≤ 17592186043904) := by unfold Hid; omega
  have HLT : Hid ((xa == xa) = true) := by simp [Hid]
  clear hv1 hv2 hnf hsb hn hV
  obtain ⟨⟨k0, k1, k2, k3, k4, k5⟩, ⟨k6, k7, k8, k9, k10, k11⟩⟩ := HE.out.box.load
  go_wp2_with fail
  refine (HV1.out _ HE.out.tab (HR.out.below HE.out.bel) Ha.out).mono ?_
  rintro e w3 ⟨rfl, hb⟩
  replace HE := Lib.hid (HE.out.step hb)
  replace Ha := Lib.hid (Ha.out.below hb)
  clear hb k0 k1 k2 k3 k4 k5 k6 k7 k8 k9 k10 k11
  by_cases hv0 : V = 0
  · obtain ⟨_, _, _, hne, hz2⟩ := HNO.out hv0
    have hnf := HNF.out hv0
    have hsb := HSB.out hv0
    have h0n : 0 < n := by
      rcases Nat.eq_zero_or_pos n with h | h
      · exact absurd (List.eq_nil_of_length_eq_zero (by rw [HN.out]; exact h)) hne
      · exact h
    obtain ⟨b, off, e0, hck⟩ := Ha.out 0 (by rw [HN.out]; exact h0n)
    subst e0
    obtain ⟨c, hc⟩ : ∃ c, xa.getD 0 0 = c := ⟨_, rfl⟩
    rw [hc, Nat.add_zero] at hck
    rw [hc] at hz
    have HCK := Lib.hid hck
    replace HNF := Lib.hid hnf
    replace HSB := Lib.hid hsb
    have dz : (z != 2) = true := by simp [hz2]
    have i1 : (0 : Int) < (n : Int) := by omega
    subst hv0
    clear hne hz2 hnf hsb hck hc HNO HV1 HV2
    obtain ⟨⟨k0, k1, k2, k3, k4, k5⟩, ⟨k6, k7, k8, k9, k10, k11⟩⟩ := HE.out.box.load
    go_wp2_with fail
    refine (HNF.out _ HE.out.tab Ha.out).mono ?_
    rintro e w4 ⟨v4, rfl, ho4, hb⟩
    obtain ⟨q4, c4, e4, hi4⟩ := ho4.inn
    rw [HN.out] at e4
    subst e4
    replace HE : Hid (NrmV w g x T b off c q4 xa w4) := ⟨HE.out.step hb, Ha.out.below hb, hi4, (hb.cell (p := ⟨b, off, none⟩) (World.block_lt_of_cell? _ _ HCK.out)).trans HCK.out⟩
    clear hb k0 k1 k2 k3 k4 k5 k6 k7 k8 k9 k10 k11 ho4 hi4 HCK Ha HNF
    go_upto_region 6 with (fail)
    have e0 := HE.out.step (drew_one w4)
    have HE0 := Lib.hid e0
    clear e0
    have kc := HE.out.k
    obtain ⟨⟨k0, k1, k2, k3, k4, k5⟩, ⟨k6, k7, k8, k9, k10, k11⟩⟩ := HE.out.l.box.load
    go_region_held3 (boxCell g x b off c)
      (first
        | exact HE0.out.flat
        | exact (HE0.out.step hb3).flat
        | exact ((HE0.out.step hb3).step hb4).flat
        | exact (((HE0.out.step hb3).step hb4).step hb5).flat
        | exact ((((HE0.out.step hb3).step hb4).step hb5).step hb6).flat)
      (first
        | (go_at_call 12; (with_reducible refine (awake17_any _ (HR.out.below HE0.out.l.bel)).mono ?_); rintro e w3 ⟨rfl, hb3⟩)
        | (go_at_call 19; (with_reducible refine (same_at (.slice q4 n c4) (.slice (some ⟨b, off, none⟩) n ca) xa xa true _ (slice_inVN HN.out HL4.out (HE0.out.step hb3).y) (slice_inVN HN.out HL4.out (HE0.out.step hb3).a) HLT).mono ?_); rintro e w4 ⟨rfl, hb4⟩)
        | (go_at_call 20; (with_reducible refine (HSB.out _ _ ((HE0.out.step hb3).step hb4).l.tab ((HE0.out.step hb3).step hb4).a).mono ?_); rintro e w5 ⟨rfl, hb5⟩)
        | (go_at_call 21; (with_reducible refine (rcat_at x T c z _ (((HE0.out.step hb3).step hb4).step hb5).l.tab HSC.out hz).mono ?_); rintro e w6 ⟨rfl, hb6⟩)
        | fail)
    all_goals
      have HBZ := Lib.hid (((((HE0.out.step hb3).step hb4).step hb5).step hb6)).l.bel
      clear hb3 hb4 hb5 hb6
      go_wp2
      go_ret
      exact ⟨by simp, HBZ.out⟩
  · have d0 : (V != 0) = true := by simp [hv0]
    clear hv0 HNO HNF HSB
    go_wp2_with fail
    refine (awake17_any _ (HR.out.below HE.out.bel)).mono ?_
    rintro e w4 ⟨rfl, hb⟩
    replace HE := Lib.hid (HE.out.step hb)
    replace Ha := Lib.hid (Ha.out.below hb)
    clear hb
    obtain ⟨⟨k0, k1, k2, k3, k4, k5⟩, ⟨k6, k7, k8, k9, k10, k11⟩⟩ := HE.out.box.load
    go_wp2_with fail
    refine (HV2.out _ HE.out.tab Ha.out).mono ?_
    rintro e w5 ⟨rfl, hb⟩
    have HBZ := Lib.hid (HE.out.step hb).bel
    clear hb k0 k1 k2 k3 k4 k5 k6 k7 k8 k9 k10 k11
    go_wp2
    go_ret
    exact ⟨rfl, HBZ.out⟩

end Go.Proofs.YtopaojjodkoidaaGreatDoor
