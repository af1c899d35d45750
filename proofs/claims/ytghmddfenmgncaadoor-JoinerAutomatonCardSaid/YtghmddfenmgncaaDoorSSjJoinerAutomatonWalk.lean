/-
  The walk of JoinerAutomaton (genJL.py).
-/
import Derived.Test.YtghmddfenmgncaaDoorSSjJoiAut
import Derived.Test.YtghmddfenmgncaaDoorSSjTblQ
import Derived.Test.YtghmddfenmgncaaDoorSSjPkF
import Derived.BigRegion
set_option linter.unusedSimpArgs false
set_option linter.unusedVariables false
namespace Go.Proofs.YtghmddfenmgncaaDoor
open Go.RowKit
set_option linter.unusedVariables false

theorem aut_perm {T : Tb} {l : List Int} {k : Nat} (h : l.getD k 0 = 8204) (ha : aftV T l k = false) : permB T l k = betB T l k := by
  unfold permB
  rw [if_neg (by omega), ha, h]; simp

set_option maxRecDepth 100000 in
set_option maxHeartbeats 8000000 in
theorem joinerAutomaton_walk (p0 : Option Addr) (cap0 : Nat) (zs0 : List Int) (p1 : Option Addr) (cap1 : Nat) (zs1 : List Int) (w : World) (hin0 : IntsIn w p0 zs0) (hl0 : zs0.length ≤ 17592186043904) (hin1 : IntsIn w p1 zs1) (hl1 : zs1.length ≤ 17592186043904) (hr : Rsv w) :
    Calls Tryd.prog 4 #[.slice p0 zs0.length cap0, .slice p1 zs1.length cap1] w (Gives (.bool true) w) := by
  have HI0 := Lib.hid hin0
  have HL0 := Lib.hid hl0
  have HI1 := Lib.hid hin1
  have HL1 := Lib.hid hl1
  have HR := Lib.hid hr
  clear hin0 hl0 hin1 hl1 hr
  go_enter Tryd.func4, Tryd.ntmps4
  go_wp2_with fail
  refine (tables_any p0 cap0 zs0 _ HI0.out HL0.out).mono ?_
  rintro e w1 ⟨⟨a0, a1, a2, a3, a4, a5, a6, a7, a8, a9, a10, a11⟩, T, rfl, htv, hm, hcap1, hb1⟩
  obtain ⟨pa0, na0, qa0, hsl0⟩ : Slc a0 := htv.cat.slc
  subst hsl0
  obtain ⟨pa1, na1, qa1, hsl1⟩ : Slc a1 := htv.cls.slc
  subst hsl1
  obtain ⟨pa2, na2, qa2, hsl2⟩ : Slc a2 := htv.joi.slc
  subst hsl2
  obtain ⟨pa3, na3, qa3, hsl3⟩ : Slc a3 := htv.bid.slc
  subst hsl3
  obtain ⟨pa4, na4, qa4, hsl4⟩ : Slc a4 := htv.scr.slc
  subst hsl4
  obtain ⟨pa5, na5, qa5, hsl5⟩ : Slc a5 := htv.sta.slc
  subst hsl5
  obtain ⟨pa6, na6, qa6, hsl6⟩ : Slc a6 := htv.ign.slc
  subst hsl6
  obtain ⟨pa7, na7, qa7, hsl7⟩ : Slc a7 := htv.ext.slc
  subst hsl7
  obtain ⟨pa8, na8, qa8, hsl8⟩ : Slc a8 := htv.map.slc
  subst hsl8
  obtain ⟨pa9, na9, qa9, hsl9⟩ : Slc a9 := htv.dec.slc
  subst hsl9
  obtain ⟨pa10, na10, qa10, hsl10⟩ : Slc a10 := htv.exc.slc
  subst hsl10
  obtain ⟨pa11, na11, qa11, hsl11⟩ : Slc a11 := htv.pro.slc
  subst hsl11
  have hba1 : Below w1.heap.size w1 (w1.alloc (.cells (tabCells ⟨.slice pa0 na0 qa0, .slice pa1 na1 qa1, .slice pa2 na2 qa2, .slice pa3 na3 qa3, .slice pa4 na4 qa4, .slice pa5 na5 qa5, .slice pa6 na6 qa6, .slice pa7 na7 qa7, .slice pa8 na8 qa8, .slice pa9 na9 qa9, .slice pa10 na10 qa10, .slice pa11 na11 qa11⟩) 26)) := (Below.refl _ _).alloc (Nat.le_refl _) _
  have HT1 : Hid (TabV (w1.alloc (.cells (tabCells ⟨.slice pa0 na0 qa0, .slice pa1 na1 qa1, .slice pa2 na2 qa2, .slice pa3 na3 qa3, .slice pa4 na4 qa4, .slice pa5 na5 qa5, .slice pa6 na6 qa6, .slice pa7 na7 qa7, .slice pa8 na8 qa8, .slice pa9 na9 qa9, .slice pa10 na10 qa10, .slice pa11 na11 qa11⟩) 26)) ⟨.slice pa0 na0 qa0, .slice pa1 na1 qa1, .slice pa2 na2 qa2, .slice pa3 na3 qa3, .slice pa4 na4 qa4, .slice pa5 na5 qa5, .slice pa6 na6 qa6, .slice pa7 na7 qa7, .slice pa8 na8 qa8, .slice pa9 na9 qa9, .slice pa10 na10 qa10, .slice pa11 na11 qa11⟩ T) := htv.below hba1
  have HX1 : Hid (BoxT (w1.alloc (.cells (tabCells ⟨.slice pa0 na0 qa0, .slice pa1 na1 qa1, .slice pa2 na2 qa2, .slice pa3 na3 qa3, .slice pa4 na4 qa4, .slice pa5 na5 qa5, .slice pa6 na6 qa6, .slice pa7 na7 qa7, .slice pa8 na8 qa8, .slice pa9 na9 qa9, .slice pa10 na10 qa10, .slice pa11 na11 qa11⟩) 26)) w1.heap.size ⟨.slice pa0 na0 qa0, .slice pa1 na1 qa1, .slice pa2 na2 qa2, .slice pa3 na3 qa3, .slice pa4 na4 qa4, .slice pa5 na5 qa5, .slice pa6 na6 qa6, .slice pa7 na7 qa7, .slice pa8 na8 qa8, .slice pa9 na9 qa9, .slice pa10 na10 qa10, .slice pa11 na11 qa11⟩) := BoxT.new _ _ _
  have HB1 : Hid (Below w.heap.size w (w1.alloc (.cells (tabCells ⟨.slice pa0 na0 qa0, .slice pa1 na1 qa1, .slice pa2 na2 qa2, .slice pa3 na3 qa3, .slice pa4 na4 qa4, .slice pa5 na5 qa5, .slice pa6 na6 qa6, .slice pa7 na7 qa7, .slice pa8 na8 qa8, .slice pa9 na9 qa9, .slice pa10 na10 qa10, .slice pa11 na11 qa11⟩) 26))) := hb1.trans (hba1.mono hb1.size)
  have HM := Lib.hid hm
  have HCAP : Hid (CapOf ⟨.slice pa0 na0 qa0, .slice pa1 na1 qa1, .slice pa2 na2 qa2, .slice pa3 na3 qa3, .slice pa4 na4 qa4, .slice pa5 na5 qa5, .slice pa6 na6 qa6, .slice pa7 na7 qa7, .slice pa8 na8 qa8, .slice pa9 na9 qa9, .slice pa10 na10 qa10, .slice pa11 na11 qa11⟩) := hcap1
  clear htv hm hcap1 hb1 hba1
  simp only [tabCells] at HT1 HX1 HB1
  go_wp2_with fail
  generalize (w1.alloc (.cells #[.slice pa0 na0 qa0, .slice pa1 na1 qa1, .slice pa2 na2 qa2, .slice pa3 na3 qa3, .slice pa4 na4 qa4, .slice pa5 na5 qa5, .slice pa6 na6 qa6, .slice pa7 na7 qa7, .slice pa8 na8 qa8, .slice pa9 na9 qa9, .slice pa10 na10 qa10, .slice pa11 na11 qa11] 26)) = W at HT1 HX1 HB1 ⊢
  generalize w1.heap.size = g at HX1 ⊢
  generalize (⟨.slice pa0 na0 qa0, .slice pa1 na1 qa1, .slice pa2 na2 qa2, .slice pa3 na3 qa3, .slice pa4 na4 qa4, .slice pa5 na5 qa5, .slice pa6 na6 qa6, .slice pa7 na7 qa7, .slice pa8 na8 qa8, .slice pa9 na9 qa9, .slice pa10 na10 qa10, .slice pa11 na11 qa11⟩ : TV) = x at HT1 HX1 HCAP
  have HE : Hid (LEnv w g x T W) := ⟨HT1.out, HX1.out, HB1.out⟩
  clear HT1 HX1 HB1
  refine (joining_any p1 cap1 zs1 _ (HI1.out.below HE.out.bel) HL1.out).mono ?_
  rintro e wa ⟨xs, va, rfl, hna, hsa, hi, hb⟩
  obtain ⟨pa, ca, rfl, hia⟩ := hi.inn
  replace HE := Lib.hid (HE.out.step hb)
  have Ha := Lib.hid hia
  have HSa := Lib.hid hsa
  clear hi hb hia hsa
  have hac := Lib.hid (accE_zero HM.out.check (by omega : xs.length ≤ 4096) HSa.out)
  have hpp := fun (k : Nat) (B : Bool) W (h0 : Hid (perR T xs k = B)) (h1 : TabV W x T) h2 h3 => jperm_at x T pa ca xs k B W h1 h2 h3 (by omega) h0
  have haa := fun (k : Nat) (B : Bool) W (hk : k ≤ 10) (h0 : Hid (autS T k 0 0 xs = B)) (h1 : TabV W x T) h3 => aut_at x T pa ca xs k B W h1 h3 (by omega) (by omega) h0
  obtain ⟨n, hn⟩ : ∃ n, xs.length = n := ⟨_, rfl⟩
  rw [hn] at hna hpp haa ⊢
  have HN := Lib.hid hn
  have HP := Lib.hid hpp
  have HU := Lib.hid haa
  clear hn hpp haa
  go_wp2
  go_loopw [15] (fun i wr => ∃ k : Nat, k ≤ n ∧ i = .int .i64 k ∧ Hid (LEnv w g x T wr) ∧ Hid (IntsIn wr pa xs)) (fun i _ => n - (intOf i).toNat)
  case atStart => exact ⟨0, Nat.zero_le _, rfl, HE, Ha⟩
  case round =>
    obtain ⟨k, hk, rfl, he, hxa⟩ := hrel
    by_cases hlt : k < n
    · have hkl : k < xs.length := by rw [HN.out]; exact hlt
      obtain ⟨b, off, rfl, hck⟩ := hxa.out k hkl
      obtain ⟨c, hc⟩ : ∃ c, xs.getD k 0 = c := ⟨_, rfl⟩
      obtain ⟨P, hP⟩ : ∃ P, betB T xs k = P := ⟨_, rfl⟩
      have HAP : Hid (c = 8204 → aftV T xs k = false → perR T xs k = P) := fun h ha => by rw [perR_ok hkl hac.out, aut_perm (by rw [hc]; exact h) ha, hP]
      have HAU : Hid (autS T k 0 0 xs = P) := by unfold Hid; rw [automaton_ok T xs k hkl, hP]
      rw [hc] at hck
      have dP : (P != P) = false := by simp
      have hk10 : k ≤ 10 := by omega
      clear hc hP
      go_upto_region 6 with (fail)
      obtain ⟨⟨k0, k1, k2, k3, k4, k5⟩, ⟨k6, k7, k8, k9, k10, k11⟩⟩ := he.out.box.load
      go_cut [47] (fun a wx => a = .bool false ∧ Hid (LEnv w g x T wx) ∧ Hid (IntsIn wx (some ⟨b, off, none⟩) xs))
      case first =>
        have K0 := fun p => layB_cell k0 p
        have K1 := fun p => layB_cell k1 p
        have K2 := fun p => layB_cell k2 p
        have K3 := fun p => layB_cell k3 p
        have K4 := fun p => layB_cell k4 p
        have K5 := fun p => layB_cell k5 p
        have K6 := fun p => layB_cell k6 p
        have K7 := fun p => layB_cell k7 p
        have K8 := fun p => layB_cell k8 p
        have K9 := fun p => layB_cell k9 p
        have K10 := fun p => layB_cell k10 p
        have K11 := fun p => layB_cell k11 p
        clear k0 k1 k2 k3 k4 k5 k6 k7 k8 k9 k10 k11
        by_cases h4 : c = 8204
        · by_cases hk0 : k = 0
          · have HPP := Lib.hid (HAP.out h4 (by unfold aftV; rw [decide_eq_false (by omega)]; rfl))
            subst h4
            have d0 : decide ((0 : Int) < (k : Int)) = false := decide_eq_false (by omega)
            have hk1 : ¬ 0 < k := by omega
            clear hk0
            have cp := fun p => layB_call (p := p) fun W2 hW2 => HP.out k P W2 HPP (he.out.tab.below hW2) ((HR.out.below he.out.bel).below hW2) (hxa.out.below hW2)
            have cu := fun p => layB_call (p := p) fun W2 hW2 => HU.out k P W2 hk10 HAU (he.out.tab.below hW2) (hxa.out.below hW2)
            simp only [TV.agg] at cp cu
            have CP := Lib.hid cp
            have CA := Lib.hid cu
            clear cp cu
            refine wp_region_layB (by kernel_rfl) (by kernel_rfl) ?_
            repeat (go_big_quiet_step (first | (go_at_call 10; with_reducible exact CP.out _) | (go_at_call 12; with_reducible exact CA.out _)))
            refine wpQuiet_nil ?_
            intro _ hw'
            obtain ⟨pq, hw''⟩ := hw'
            subst hw''
            go_wp2_with fail
            go_meet
            exact ⟨rfl, he.out.step (layB_below wr pq), hxa.out.below (layB_below wr pq)⟩
          · obtain ⟨k', hk'⟩ : ∃ j, j + 1 = k := ⟨k - 1, by omega⟩
            obtain ⟨b2, off2, e2, hc2⟩ := hxa.out k' (by omega)
            injection e2 with e2
            injection e2 with e2 e3 _
            subst e2
            subst e3
            obtain ⟨c2, hcc2⟩ : ∃ c, xs.getD k' 0 = c := ⟨_, rfl⟩
            rw [hcc2] at hc2
            obtain ⟨z, hz⟩ : ∃ z, Hid (clsT T c2 = z) := ⟨_, rfl⟩
            have hAz : aftV T xs k = (z == 9) := by
              unfold aftV
              rw [decide_eq_true (by omega), show k - 1 = k' by omega, hcc2, hz.out]; simp; rfl
            have d0 : decide ((0 : Int) < (k : Int)) = true := decide_eq_true (by omega)
            have hk1 : 0 < k := by omega
            have i0 : (0 : Int) ≤ (k' : Int) := by omega
            have i1 : (k' : Int) < (n : Int) := by omega
            have d1 : (k : Int) - 1 = (k' : Int) := by omega
            have d2 : IntKind.i64.wrap (k' : Int) = (k' : Int) := IntWalk.i64_in _ (by omega)
            have KC := fun p => layB_cell hc2 p
            clear hcc2 hc2 hk'
            have cc := fun p => layB_call (p := p) fun W2 hW2 => rclass_at x T c2 z W2 (he.out.tab.below hW2) hz
            simp only [TV.agg] at cc
            have CC := Lib.hid cc
            clear cc
            by_cases hz9 : z = 9
            · subst hz9
              subst h4
              clear hAz
              refine wp_region_layB (by kernel_rfl) (by kernel_rfl) ?_
              repeat (go_big_quiet_step ((go_at_call 9; with_reducible exact CC.out _)))
              refine wpQuiet_nil ?_
              intro _ hw'
              obtain ⟨pq, hw''⟩ := hw'
              subst hw''
              go_wp2_with fail
              go_meet
              exact ⟨rfl, he.out.step (layB_below wr pq), hxa.out.below (layB_below wr pq)⟩
            · have z9 : (z == 9) = false := by simp [hz9]
              have HPP := Lib.hid (HAP.out h4 (by rw [hAz, z9]))
              subst h4
              clear hAz hz9
              have cp := fun p => layB_call (p := p) fun W2 hW2 => HP.out k P W2 HPP (he.out.tab.below hW2) ((HR.out.below he.out.bel).below hW2) (hxa.out.below hW2)
              have cu := fun p => layB_call (p := p) fun W2 hW2 => HU.out k P W2 hk10 HAU (he.out.tab.below hW2) (hxa.out.below hW2)
              simp only [TV.agg] at cp cu
              have CP := Lib.hid cp
              have CA := Lib.hid cu
              clear cp cu
              refine wp_region_layB (by kernel_rfl) (by kernel_rfl) ?_
              repeat (go_big_quiet_step (first | (go_at_call 9; with_reducible exact CC.out _) | (go_at_call 10; with_reducible exact CP.out _) | (go_at_call 12; with_reducible exact CA.out _)))
              refine wpQuiet_nil ?_
              intro _ hw'
              obtain ⟨pq, hw''⟩ := hw'
              subst hw''
              go_wp2_with fail
              go_meet
              exact ⟨rfl, he.out.step (layB_below wr pq), hxa.out.below (layB_below wr pq)⟩
        · have d4 : (c == 8204) = false := by simp [h4]
          clear h4
          refine wp_region_layB (by kernel_rfl) (by kernel_rfl) ?_
          repeat (go_big_quiet_step (fail))
          refine wpQuiet_nil ?_
          intro _ hw'
          obtain ⟨pq, hw''⟩ := hw'
          subst hw''
          go_wp2_with fail
          go_meet
          exact ⟨rfl, he.out.step (layB_below wr pq), hxa.out.below (layB_below wr pq)⟩
      case rest =>
        obtain ⟨rfl, he, hxa⟩ := hcut
        generalize wc = W1 at he hxa ⊢
        go_wp2
        go_roundw
        case rel => exact ⟨k + 1, by omega, by go_num, he, hxa⟩
        case measure => simp [intOf]; omega
    · go_wp2_with fail
      refine (awake14_any _ (HR.out.below he.out.bel)).mono ?_
      rintro e w9 ⟨rfl, hb⟩
      have HBZ := Lib.hid (he.out.step hb).bel
      clear hb
      go_wp2
      go_ret
      exact ⟨rfl, HBZ.out⟩

end Go.Proofs.YtghmddfenmgncaaDoor
