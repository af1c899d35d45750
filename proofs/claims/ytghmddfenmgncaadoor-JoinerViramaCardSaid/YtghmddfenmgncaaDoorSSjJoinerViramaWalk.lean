/-
  The walk of JoinerVirama (genJL.py).
-/
import Derived.Test.YtghmddfenmgncaaDoorSSjPkZZI
import Derived.Test.YtghmddfenmgncaaDoorSSjTblQ
import Derived.Deep.RegionHeld3
set_option linter.unusedSimpArgs false
set_option linter.unusedVariables false
namespace Go.Proofs.YtghmddfenmgncaaDoor
open Go.RowKit
set_option linter.unusedVariables false

abbrev boxC (g : Nat) (x : TV) (b o : Nat) (c : Int) (w : World) : Prop := boxF g x w ∧ w.cell? ⟨b, o, none⟩ = some (.int .i64 c)
theorem vir_zwj {T : Tb} {l : List Int} {k : Nat} (h : l.getD k 0 = 8205) : permB T l k = aftV T l k := by
  unfold permB
  rw [if_neg (by omega), h]; simp
theorem vir_zwnj {T : Tb} {l : List Int} {k : Nat} (h : l.getD k 0 = 8204) (ha : aftV T l k = true) : permB T l k = true := by
  unfold permB
  rw [if_neg (by omega), ha]; simp

set_option maxRecDepth 100000 in
set_option maxHeartbeats 8000000 in
theorem joinerVirama_walk (p0 : Option Addr) (cap0 : Nat) (zs0 : List Int) (p1 : Option Addr) (cap1 : Nat) (zs1 : List Int) (w : World) (hin0 : IntsIn w p0 zs0) (hl0 : zs0.length ≤ 17592186043904) (hin1 : IntsIn w p1 zs1) (hl1 : zs1.length ≤ 17592186043904) (hr : Rsv w) :
    Calls Tryd.prog 3 #[.slice p0 zs0.length cap0, .slice p1 zs1.length cap1] w (Gives (.bool true) w) := by
  have HI0 := Lib.hid hin0
  have HL0 := Lib.hid hl0
  have HI1 := Lib.hid hin1
  have HL1 := Lib.hid hl1
  have HR := Lib.hid hr
  clear hin0 hl0 hin1 hl1 hr
  go_enter Tryd.func3, Tryd.ntmps3
  go_wp2_with fail
  refine (tables_any p0 cap0 zs0 _ HI0.out HL0.out).mono ?_
  rintro e w1 ⟨⟨a0, a1, a2, a3, a4, a5, a6, a7, a8, a9, a10, a11⟩, T, rfl, htv, hm, hcap1, hb1⟩
  obtain ⟨pa0, na0, qa0, hsl0⟩ : Slc a0 := htv.cat.slc
  subst hsl0
  obtain ⟨pa1, na1, qa1, hsl1⟩ : Slc a1 := htv.cls.slc
  subst hsl1
  obtain ⟨pa2, na2, qa2, hsl2⟩ : Slc a2 := htv.joi.slc
  subst hsl2
  obtain ⟨pa3, na3, qa3, hsl3⟩ : Slc a3 := htv.bid.slc
  subst hsl3
  obtain ⟨pa4, na4, qa4, hsl4⟩ : Slc a4 := htv.scr.slc
  subst hsl4
  obtain ⟨pa5, na5, qa5, hsl5⟩ : Slc a5 := htv.sta.slc
  subst hsl5
  obtain ⟨pa6, na6, qa6, hsl6⟩ : Slc a6 := htv.ign.slc
  subst hsl6
  obtain ⟨pa7, na7, qa7, hsl7⟩ : Slc a7 := htv.ext.slc
  subst hsl7
  obtain ⟨pa8, na8, qa8, hsl8⟩ : Slc a8 := htv.map.slc
  subst hsl8
  obtain ⟨pa9, na9, qa9, hsl9⟩ : Slc a9 := htv.dec.slc
  subst hsl9
  obtain ⟨pa10, na10, qa10, hsl10⟩ : Slc a10 := htv.exc.slc
  subst hsl10
  obtain ⟨pa11, na11, qa11, hsl11⟩ : Slc a11 := htv.pro.slc
  subst hsl11
  have hba1 : Below w1.heap.size w1 (w1.alloc (.cells (tabCells ⟨.slice pa0 na0 qa0, .slice pa1 na1 qa1, .slice pa2 na2 qa2, .slice pa3 na3 qa3, .slice pa4 na4 qa4, .slice pa5 na5 qa5, .slice pa6 na6 qa6, .slice pa7 na7 qa7, .slice pa8 na8 qa8, .slice pa9 na9 qa9, .slice pa10 na10 qa10, .slice pa11 na11 qa11⟩) 26)) := (Below.refl _ _).alloc (Nat.le_refl _) _
  have HT1 : Hid (TabV (w1.alloc (.cells (tabCells ⟨.slice pa0 na0 qa0, .slice pa1 na1 qa1, .slice pa2 na2 qa2, .slice pa3 na3 qa3, .slice pa4 na4 qa4, .slice pa5 na5 qa5, .slice pa6 na6 qa6, .slice pa7 na7 qa7, .slice pa8 na8 qa8, .slice pa9 na9 qa9, .slice pa10 na10 qa10, .slice pa11 na11 qa11⟩) 26)) ⟨.slice pa0 na0 qa0, .slice pa1 na1 qa1, .slice pa2 na2 qa2, .slice pa3 na3 qa3, .slice pa4 na4 qa4, .slice pa5 na5 qa5, .slice pa6 na6 qa6, .slice pa7 na7 qa7, .slice pa8 na8 qa8, .slice pa9 na9 qa9, .slice pa10 na10 qa10, .slice pa11 na11 qa11⟩ T) := htv.below hba1
  have HX1 : Hid (BoxT (w1.alloc (.cells (tabCells ⟨.slice pa0 na0 qa0, .slice pa1 na1 qa1, .slice pa2 na2 qa2, .slice pa3 na3 qa3, .slice pa4 na4 qa4, .slice pa5 na5 qa5, .slice pa6 na6 qa6, .slice pa7 na7 qa7, .slice pa8 na8 qa8, .slice pa9 na9 qa9, .slice pa10 na10 qa10, .slice pa11 na11 qa11⟩) 26)) w1.heap.size ⟨.slice pa0 na0 qa0, .slice pa1 na1 qa1, .slice pa2 na2 qa2, .slice pa3 na3 qa3, .slice pa4 na4 qa4, .slice pa5 na5 qa5, .slice pa6 na6 qa6, .slice pa7 na7 qa7, .slice pa8 na8 qa8, .slice pa9 na9 qa9, .slice pa10 na10 qa10, .slice pa11 na11 qa11⟩) := BoxT.new _ _ _
  have HB1 : Hid (Below w.heap.size w (w1.alloc (.cells (tabCells ⟨.slice pa0 na0 qa0, .slice pa1 na1 qa1, .slice pa2 na2 qa2, .slice pa3 na3 qa3, .slice pa4 na4 qa4, .slice pa5 na5 qa5, .slice pa6 na6 qa6, .slice pa7 na7 qa7, .slice pa8 na8 qa8, .slice pa9 na9 qa9, .slice pa10 na10 qa10, .slice pa11 na11 qa11⟩) 26))) := hb1.trans (hba1.mono hb1.size)
  have HM := Lib.hid hm
  have HCAP : Hid (CapOf ⟨.slice pa0 na0 qa0, .slice pa1 na1 qa1, .slice pa2 na2 qa2, .slice pa3 na3 qa3, .slice pa4 na4 qa4, .slice pa5 na5 qa5, .slice pa6 na6 qa6, .slice pa7 na7 qa7, .slice pa8 na8 qa8, .slice pa9 na9 qa9, .slice pa10 na10 qa10, .slice pa11 na11 qa11⟩) := hcap1
  clear htv hm hcap1 hb1 hba1
  simp only [tabCells] at HT1 HX1 HB1
  go_wp2_with fail
  generalize (w1.alloc (.cells #[.slice pa0 na0 qa0, .slice pa1 na1 qa1, .slice pa2 na2 qa2, .slice pa3 na3 qa3, .slice pa4 na4 qa4, .slice pa5 na5 qa5, .slice pa6 na6 qa6, .slice pa7 na7 qa7, .slice pa8 na8 qa8, .slice pa9 na9 qa9, .slice pa10 na10 qa10, .slice pa11 na11 qa11] 26)) = W at HT1 HX1 HB1 ⊢
  generalize w1.heap.size = g at HX1 ⊢
  generalize (⟨.slice pa0 na0 qa0, .slice pa1 na1 qa1, .slice pa2 na2 qa2, .slice pa3 na3 qa3, .slice pa4 na4 qa4, .slice pa5 na5 qa5, .slice pa6 na6 qa6, .slice pa7 na7 qa7, .slice pa8 na8 qa8, .slice pa9 na9 qa9, .slice pa10 na10 qa10, .slice pa11 na11 qa11⟩ : TV) = x at HT1 HX1 HCAP
  have HE : Hid (LEnv w g x T W) := ⟨HT1.out, HX1.out, HB1.out⟩
  clear HT1 HX1 HB1
  refine (joining_any p1 cap1 zs1 _ (HI1.out.below HE.out.bel) HL1.out).mono ?_
  rintro e wa ⟨xs, va, rfl, hna, hsa, hi, hb⟩
  obtain ⟨pa, ca, rfl, hia⟩ := hi.inn
  replace HE := Lib.hid (HE.out.step hb)
  have Ha := Lib.hid hia
  have HSa := Lib.hid hsa
  clear hi hb hia hsa
  have hac := Lib.hid (accE_zero HM.out.check (by omega : xs.length ≤ 4096) HSa.out)
  have hpp := fun (k : Nat) (B : Bool) W (h0 : Hid (perR T xs k = B)) (h1 : TabV W x T) h2 h3 => jperm_at x T pa ca xs k B W h1 h2 h3 (by omega) h0
  obtain ⟨n, hn⟩ : ∃ n, xs.length = n := ⟨_, rfl⟩
  rw [hn] at hna hpp ⊢
  have HN := Lib.hid hn
  have HP := Lib.hid hpp
  clear hn hpp
  go_wp2
  go_loopw [16] (fun i wr => ∃ k : Nat, k ≤ n ∧ i = .int .i64 k ∧ Hid (LEnv w g x T wr) ∧ Hid (IntsIn wr pa xs)) (fun i _ => n - (intOf i).toNat)
  case atStart => exact ⟨0, Nat.zero_le _, rfl, HE, Ha⟩
  case round =>
    obtain ⟨k, hk, rfl, he, hxa⟩ := hrel
    by_cases hlt : k < n
    · have hkl : k < xs.length := by rw [HN.out]; exact hlt
      obtain ⟨b, off, rfl, hck⟩ := hxa.out k hkl
      obtain ⟨c, hc⟩ : ∃ c, xs.getD k 0 = c := ⟨_, rfl⟩
      obtain ⟨A, hA⟩ : ∃ A, aftV T xs k = A := ⟨_, rfl⟩
      have HZJ : Hid (c = 8205 → perR T xs k = A) := fun h => by rw [perR_ok hkl hac.out, vir_zwj (by rw [hc]; exact h), hA]
      have HZN : Hid (c = 8204 → A = true → perR T xs k = true) := fun h ha => by rw [perR_ok hkl hac.out, vir_zwnj (by rw [hc]; exact h) (by rw [hA]; exact ha)]
      rw [hc] at hck
      have HA := Lib.hid hA
      clear hc hA
      go_upto_region 6 with (fail)
      obtain ⟨⟨k0, k1, k2, k3, k4, k5⟩, ⟨k6, k7, k8, k9, k10, k11⟩⟩ := he.out.box.load
      go_cut [9] (fun a wx => a = .bool A ∧ Hid (LEnv w g x T wx) ∧ Hid (IntsIn wx (some ⟨b, off, none⟩) xs))
      case first =>
        by_cases hk0 : k = 0
        · have hAf : A = false := by rw [← HA.out]; unfold aftV; rw [decide_eq_false (by omega)]; rfl
          subst hAf
          have d0 : decide ((0 : Int) < (k : Int)) = false := decide_eq_false (by omega)
          have hk1 : ¬ 0 < k := by omega
          have e0 := he.out.step (drew_one wr)
          have HE0 := Lib.hid e0
          clear e0
          go_quiet (fail)
          go_wp2_with fail
          go_meet
          exact ⟨rfl, he.out.step (drew_ref wr _), hxa.out.below (drew_ref wr _)⟩
        · obtain ⟨k', hk'⟩ : ∃ j, j + 1 = k := ⟨k - 1, by omega⟩
          obtain ⟨b2, off2, e2, hc2⟩ := hxa.out k' (by omega)
          injection e2 with e2
          injection e2 with e2 e3 _
          subst e2
          subst e3
          obtain ⟨c2, hcc2⟩ : ∃ c, xs.getD k' 0 = c := ⟨_, rfl⟩
          rw [hcc2] at hc2
          obtain ⟨z, hz⟩ : ∃ z, Hid (clsT T c2 = z) := ⟨_, rfl⟩
          have hAz : A = (z == 9) := by
            rw [← HA.out]; unfold aftV
            rw [decide_eq_true (by omega), show k - 1 = k' by omega, hcc2, hz.out]; simp; rfl
          have d0 : decide ((0 : Int) < (k : Int)) = true := decide_eq_true (by omega)
          have hk1 : 0 < k := by omega
          have i0 : (0 : Int) ≤ (k' : Int) := by omega
          have i1 : (k' : Int) < (n : Int) := by omega
          have HC2 : Hid (∀ W', Below wr.heap.size wr W' → W'.cell? ⟨b, off + k', none⟩ = some (.int .i64 c2)) := fun W' hb => (hb.cell (p := ⟨b, off + k', none⟩) (World.block_lt_of_cell? wr _ hc2)).trans hc2
          have d1 : (k : Int) - 1 = (k' : Int) := by omega
          have d2 : IntKind.i64.wrap (k' : Int) = (k' : Int) := IntWalk.i64_in _ (by omega)
          have e0 := he.out.step (drew_one wr)
          have HE0 := Lib.hid e0
          have HX0 := Lib.hid (hxa.out.below (drew_one wr))
          clear e0 hcc2
          go_region_held3 (boxC g x b (off + k') c2)
            (first
              | exact ⟨HE0.out.box.flat, by first | exact HC2.out _ (drew_one wr) | exact HC2.out _ ((drew_one wr).trans (hb3.mono (drew_one wr).size))⟩
              | exact ⟨(HE0.out.step hb3).box.flat, by first | exact HC2.out _ (drew_one wr) | exact HC2.out _ ((drew_one wr).trans (hb3.mono (drew_one wr).size))⟩)
            (first
              | (go_at_call 9; (with_reducible refine (rclass_at x T c2 z _ HE0.out.tab hz).mono ?_); rintro e w3 ⟨rfl, hb3⟩)
              | fail)
          all_goals
            have hf := HE0.out.step hb3
            have hfx := HX0.out.below hb3
            try (go_wp2_with fail)
            go_meet
            exact ⟨by rw [hAz], hf, hfx⟩
      case rest =>
        obtain ⟨rfl, he, hxa⟩ := hcut
        generalize wc = W1 at he hxa ⊢
        by_cases h5 : c = 8205
        · have HP5 := Lib.hid (HZJ.out h5)
          subst h5
          obtain ⟨⟨k0, k1, k2, k3, k4, k5⟩, ⟨k6, k7, k8, k9, k10, k11⟩⟩ := he.out.box.load
          go_wp2_with fail
          refine (HP.out k A _ HP5 he.out.tab (HR.out.below he.out.bel) hxa.out).mono ?_
          rintro e w5 ⟨rfl, hb⟩
          replace he := Lib.hid (he.out.step hb)
          replace hxa := Lib.hid (hxa.out.below hb)
          have dA : (A != A) = false := by simp
          clear hb k0 k1 k2 k3 k4 k5 k6 k7 k8 k9 k10 k11
          go_wp2
          go_roundw
          case rel => exact ⟨k + 1, by omega, by go_num, he, hxa⟩
          case measure => simp [intOf]; omega
        · have d5 : (c == 8205) = false := by simp [h5]
          by_cases h4 : c = 8204
          · cases A with
            | true =>
              have HP4 := Lib.hid (HZN.out h4 rfl)
              subst h4
              clear h5 d5
              obtain ⟨⟨k0, k1, k2, k3, k4, k5⟩, ⟨k6, k7, k8, k9, k10, k11⟩⟩ := he.out.box.load
              go_wp2_with fail
              refine (HP.out k true _ HP4 he.out.tab (HR.out.below he.out.bel) hxa.out).mono ?_
              rintro e w5 ⟨rfl, hb⟩
              replace he := Lib.hid (he.out.step hb)
              replace hxa := Lib.hid (hxa.out.below hb)
              clear hb k0 k1 k2 k3 k4 k5 k6 k7 k8 k9 k10 k11
              go_wp2
              go_roundw
              case rel => exact ⟨k + 1, by omega, by go_num, he, hxa⟩
              case measure => simp [intOf]; omega
            | false =>
              subst h4
              clear h5 d5
              obtain ⟨⟨k0, k1, k2, k3, k4, k5⟩, ⟨k6, k7, k8, k9, k10, k11⟩⟩ := he.out.box.load
              go_wp2
              go_roundw
              case rel => exact ⟨k + 1, by omega, by go_num, he, hxa⟩
              case measure => simp [intOf]; omega
          · have d4 : (c == 8204) = false := by simp [h4]
            clear h4 h5
            obtain ⟨⟨k0, k1, k2, k3, k4, k5⟩, ⟨k6, k7, k8, k9, k10, k11⟩⟩ := he.out.box.load
            go_wp2
            go_roundw
            case rel => exact ⟨k + 1, by omega, by go_num, he, hxa⟩
            case measure => simp [intOf]; omega
    · go_wp2_with fail
      refine (awake14_any _ (HR.out.below he.out.bel)).mono ?_
      rintro e w9 ⟨rfl, hb⟩
      have HBZ := Lib.hid (he.out.step hb).bel
      clear hb
      go_wp2
      go_ret
      exact ⟨rfl, HBZ.out⟩

end Go.Proofs.YtghmddfenmgncaaDoor
