/-
  The walk of BidiConditions (genBL.py).
-/
import Derived.Test.YtiafhifbgdkgaaaDoorPkZZM
import Derived.Test.YtiafhifbgdkgaaaDoorQTblS
import Derived.Test.YtiafhifbgdkgaaaDoorPkZ
import Derived.Test.YtiafhifbgdkgaaaDoorPkF
import Derived.BigRegion
set_option linter.unusedSimpArgs false
set_option linter.unusedVariables false
namespace Go.Proofs.YtiafhifbgdkgaaaDoor
open Go.RowKit
set_option linter.unusedVariables false

theorem r2_bidC {T : Tb} (h : r2 T = true) : spOk T.bid = true := by
  simp only [r2, spansT, List.all_cons, List.all_nil, Bool.and_eq_true] at h; exact h.1.2.2.2.1
def qB (T : Tb) (k c : Int) : Bool := bidT T c == k
theorem hasB_q (T : Tb) (l : List Int) (k : Int) : hasB T l [k] = l.any (qB T k) := by
  unfold hasB
  congr 1
  funext c
  unfold qB
  first
    | (simp; done)
    | (simp; rfl)
theorem qB_step (q : Int → Bool) (l : List Int) (k : Nat) (h : k < l.length) : (l.take (k + 1)).any q = ((l.take k).any q || q (l.getD k 0)) := by
  rw [List.take_succ_eq_append_getElem h, List.any_append]; simp [h]

set_option maxRecDepth 100000 in
set_option maxHeartbeats 8000000 in
theorem bidiConditions_walk (p0 : Option Addr) (cap0 : Nat) (zs0 : List Int) (p1 : Option Addr) (cap1 : Nat) (zs1 : List Int) (w : World) (hin0 : IntsIn w p0 zs0) (hl0 : zs0.length ≤ 17592186043904) (hin1 : IntsIn w p1 zs1) (hl1 : zs1.length ≤ 17592186043904) (hr : Rsv w) :
    Calls Tryd.prog 3 #[.slice p0 zs0.length cap0, .slice p1 zs1.length cap1] w (Gives (.bool true) w) := by
  have HI0 := Lib.hid hin0
  have HL0 := Lib.hid hl0
  have HI1 := Lib.hid hin1
  have HL1 := Lib.hid hl1
  have HR := Lib.hid hr
  clear hin0 hl0 hin1 hl1 hr
  go_enter Tryd.func3, Tryd.ntmps3
  go_wp2_with fail
  refine (tables_any p0 cap0 zs0 _ HI0.out HL0.out).mono ?_
  rintro e w1 ⟨⟨a0, a1, a2, a3, a4, a5, a6, a7, a8, a9, a10, a11⟩, T, rfl, htv, hm, hcap1, hb1⟩
  obtain ⟨pa0, na0, qa0, hsl0⟩ : Slc a0 := htv.cat.slc
  subst hsl0
  obtain ⟨pa1, na1, qa1, hsl1⟩ : Slc a1 := htv.cls.slc
  subst hsl1
  obtain ⟨pa2, na2, qa2, hsl2⟩ : Slc a2 := htv.joi.slc
  subst hsl2
  obtain ⟨pa3, na3, qa3, hsl3⟩ : Slc a3 := htv.bid.slc
  subst hsl3
  obtain ⟨pa4, na4, qa4, hsl4⟩ : Slc a4 := htv.scr.slc
  subst hsl4
  obtain ⟨pa5, na5, qa5, hsl5⟩ : Slc a5 := htv.sta.slc
  subst hsl5
  obtain ⟨pa6, na6, qa6, hsl6⟩ : Slc a6 := htv.ign.slc
  subst hsl6
  obtain ⟨pa7, na7, qa7, hsl7⟩ : Slc a7 := htv.ext.slc
  subst hsl7
  obtain ⟨pa8, na8, qa8, hsl8⟩ : Slc a8 := htv.map.slc
  subst hsl8
  obtain ⟨pa9, na9, qa9, hsl9⟩ : Slc a9 := htv.dec.slc
  subst hsl9
  obtain ⟨pa10, na10, qa10, hsl10⟩ : Slc a10 := htv.exc.slc
  subst hsl10
  obtain ⟨pa11, na11, qa11, hsl11⟩ : Slc a11 := htv.pro.slc
  subst hsl11
  have hba1 : Below w1.heap.size w1 (w1.alloc (.cells (tabCells ⟨.slice pa0 na0 qa0, .slice pa1 na1 qa1, .slice pa2 na2 qa2, .slice pa3 na3 qa3, .slice pa4 na4 qa4, .slice pa5 na5 qa5, .slice pa6 na6 qa6, .slice pa7 na7 qa7, .slice pa8 na8 qa8, .slice pa9 na9 qa9, .slice pa10 na10 qa10, .slice pa11 na11 qa11⟩) 26)) := (Below.refl _ _).alloc (Nat.le_refl _) _
  have HT1 : Hid (TabV (w1.alloc (.cells (tabCells ⟨.slice pa0 na0 qa0, .slice pa1 na1 qa1, .slice pa2 na2 qa2, .slice pa3 na3 qa3, .slice pa4 na4 qa4, .slice pa5 na5 qa5, .slice pa6 na6 qa6, .slice pa7 na7 qa7, .slice pa8 na8 qa8, .slice pa9 na9 qa9, .slice pa10 na10 qa10, .slice pa11 na11 qa11⟩) 26)) ⟨.slice pa0 na0 qa0, .slice pa1 na1 qa1, .slice pa2 na2 qa2, .slice pa3 na3 qa3, .slice pa4 na4 qa4, .slice pa5 na5 qa5, .slice pa6 na6 qa6, .slice pa7 na7 qa7, .slice pa8 na8 qa8, .slice pa9 na9 qa9, .slice pa10 na10 qa10, .slice pa11 na11 qa11⟩ T) := htv.below hba1
  have HX1 : Hid (BoxT (w1.alloc (.cells (tabCells ⟨.slice pa0 na0 qa0, .slice pa1 na1 qa1, .slice pa2 na2 qa2, .slice pa3 na3 qa3, .slice pa4 na4 qa4, .slice pa5 na5 qa5, .slice pa6 na6 qa6, .slice pa7 na7 qa7, .slice pa8 na8 qa8, .slice pa9 na9 qa9, .slice pa10 na10 qa10, .slice pa11 na11 qa11⟩) 26)) w1.heap.size ⟨.slice pa0 na0 qa0, .slice pa1 na1 qa1, .slice pa2 na2 qa2, .slice pa3 na3 qa3, .slice pa4 na4 qa4, .slice pa5 na5 qa5, .slice pa6 na6 qa6, .slice pa7 na7 qa7, .slice pa8 na8 qa8, .slice pa9 na9 qa9, .slice pa10 na10 qa10, .slice pa11 na11 qa11⟩) := BoxT.new _ _ _
  have HB1 : Hid (Below w.heap.size w (w1.alloc (.cells (tabCells ⟨.slice pa0 na0 qa0, .slice pa1 na1 qa1, .slice pa2 na2 qa2, .slice pa3 na3 qa3, .slice pa4 na4 qa4, .slice pa5 na5 qa5, .slice pa6 na6 qa6, .slice pa7 na7 qa7, .slice pa8 na8 qa8, .slice pa9 na9 qa9, .slice pa10 na10 qa10, .slice pa11 na11 qa11⟩) 26))) := hb1.trans (hba1.mono hb1.size)
  have HM := Lib.hid hm
  have HCAP : Hid (CapOf ⟨.slice pa0 na0 qa0, .slice pa1 na1 qa1, .slice pa2 na2 qa2, .slice pa3 na3 qa3, .slice pa4 na4 qa4, .slice pa5 na5 qa5, .slice pa6 na6 qa6, .slice pa7 na7 qa7, .slice pa8 na8 qa8, .slice pa9 na9 qa9, .slice pa10 na10 qa10, .slice pa11 na11 qa11⟩) := hcap1
  clear htv hm hcap1 hb1 hba1
  simp only [tabCells] at HT1 HX1 HB1
  go_wp2_with fail
  generalize (w1.alloc (.cells #[.slice pa0 na0 qa0, .slice pa1 na1 qa1, .slice pa2 na2 qa2, .slice pa3 na3 qa3, .slice pa4 na4 qa4, .slice pa5 na5 qa5, .slice pa6 na6 qa6, .slice pa7 na7 qa7, .slice pa8 na8 qa8, .slice pa9 na9 qa9, .slice pa10 na10 qa10, .slice pa11 na11 qa11] 26)) = W at HT1 HX1 HB1 ⊢
  generalize w1.heap.size = g at HX1 ⊢
  generalize (⟨.slice pa0 na0 qa0, .slice pa1 na1 qa1, .slice pa2 na2 qa2, .slice pa3 na3 qa3, .slice pa4 na4 qa4, .slice pa5 na5 qa5, .slice pa6 na6 qa6, .slice pa7 na7 qa7, .slice pa8 na8 qa8, .slice pa9 na9 qa9, .slice pa10 na10 qa10, .slice pa11 na11 qa11⟩ : TV) = x at HT1 HX1 HCAP
  have HE : Hid (LEnv w g x T W) := ⟨HT1.out, HX1.out, HB1.out⟩
  clear HT1 HX1 HB1
  refine (mixed_any p1 cap1 zs1 _ (HI1.out.below HE.out.bel) HL1.out).mono ?_
  rintro e wa ⟨xs, va, rfl, hna, hsa, hi, hb⟩
  obtain ⟨pa, ca, rfl, hia, hcpa⟩ := ints_capL hi
  replace HE := Lib.hid (HE.out.step hb)
  have Ha := Lib.hid hia
  have HSa := Lib.hid hsa
  clear hi hb hia hsa
  have HSB : Hid (spOk T.bid = true) := r2_bidC (check_rules HM.out.check).2.1
  have hax : accE T xs = 0 := accE_zero HM.out.check (by omega) HSa.out
  have HAX := Lib.hid hax
  obtain ⟨z, hz⟩ : ∃ z, Hid (ruleT T xs = z) := ⟨_, rfl⟩
  have hzb := rule_bd T xs
  rw [hz.out] at hzb
  obtain ⟨hz0, hz6⟩ := hzb
  have hru : Hid (rulR T xs = (z, 0)) := by unfold Hid rulR; rw [if_neg (by rw [hax]; simp), hz.out]
  have hoa := fun W (h1 : TabV W x T) h2 h3 => brule_at x T pa ca xs z 0 W h1 h2 h3 (by omega) hru
  obtain ⟨B, hB⟩ : ∃ B, rtlT T xs = B := ⟨_, rfl⟩
  have hrt : Hid (rtlR T xs = B) := by unfold Hid rtlR; rw [decide_eq_true hax, Bool.true_and, hB]
  have hob := fun W (h1 : TabV W x T) h2 h3 => brtl_at x T pa ca xs B W h1 h2 h3 (by omega) hrt
  obtain ⟨n, hn⟩ : ∃ n, xs.length = n := ⟨_, rfl⟩
  have HN := Lib.hid hn
  have HBB := Lib.hid hB
  rw [hn] at hna hoa hob ⊢
  have HOA := Lib.hid hoa
  have HOB := Lib.hid hob
  have g1 : decide (z < 0) = false := decide_eq_false (by omega)
  have g2 : decide ((6 : Int) < z) = false := decide_eq_false (by omega)
  clear hn hax hcpa hoa hob hB
  obtain ⟨⟨k0, k1, k2, k3, k4, k5⟩, ⟨k6, k7, k8, k9, k10, k11⟩⟩ := HE.out.box.load
  go_wp2_with fail
  refine (HOA.out _ HE.out.tab (HR.out.below HE.out.bel) Ha.out).mono ?_
  rintro e w2 ⟨rfl, hb⟩
  replace HE := Lib.hid (HE.out.step hb)
  replace Ha := Lib.hid (Ha.out.below hb)
  clear hb k0 k1 k2 k3 k4 k5 k6 k7 k8 k9 k10 k11
  by_cases h0 : n = 0
  · have hnil : xs = [] := List.eq_nil_of_length_eq_zero (by rw [HN.out]; exact h0)
    have hz00 : z = 0 := by rw [← hz.out, hnil]; rfl
    subst hz00
    subst h0
    clear hnil
    go_wp2_with fail
    refine (awake16_any _ (HR.out.below HE.out.bel)).mono ?_
    rintro e w9 ⟨rfl, hb⟩
    have HBZ := Lib.hid (HE.out.step hb).bel
    clear hb
    go_wp2
    go_ret
    exact ⟨rfl, HBZ.out⟩
  · have dn : ((n : Int) == 0) = false := by simp; omega
    by_cases h1 : 0 < z
    · have g3 : decide ((0 : Int) < z) = true := decide_eq_true h1
      have g4 : (z == 0) = false := by simp; omega
      clear h1
      go_wp2_with fail
      refine (awake16_any _ (HR.out.below HE.out.bel)).mono ?_
      rintro e w9 ⟨rfl, hb⟩
      have HBZ := Lib.hid (HE.out.step hb).bel
      clear hb
      go_wp2
      go_ret
      exact ⟨rfl, HBZ.out⟩
    · have hz00 : z = 0 := by omega
      subst hz00
      have hne : xs ≠ [] := fun h => h0 (by rw [← HN.out, h]; rfl)
      obtain ⟨f, hf⟩ : ∃ f, Hid (bidT T (xs.getD 0 0) = f) := ⟨_, rfl⟩
      obtain ⟨hf3, hall, hpar, hrtl⟩ := rule_conditions T xs f hne hf.out hz.out
      have HALL := Lib.hid hall
      have HPAR := Lib.hid hpar
      have HRTL := Lib.hid hrtl
      have hkl : 0 < xs.length := by rw [HN.out]; omega
      clear hall hpar hrtl hne hz h1 g1 g2 HOA
      go_upto_region 8 with (fail)
      obtain ⟨b, off, rfl, hck⟩ := Ha.out 0 hkl
      obtain ⟨c, hc⟩ : ∃ c, xs.getD 0 0 = c := ⟨_, rfl⟩
      rw [hc, Nat.add_zero] at hck
      rw [hc] at hf
      have i1 : (0 : Int) < (n : Int) := by omega
      have i2 : 0 < n := by omega
      have K20 := fun p => layB_cell hck p
      have cc := fun p => layB_call (p := p) fun W2 hW2 => rbid_at x T c f W2 (HE.out.tab.below hW2) HSB.out hf
      simp only [TV.agg] at cc
      have CC := Lib.hid cc
      clear cc hc hck hkl
      obtain ⟨⟨k0, k1, k2, k3, k4, k5⟩, ⟨k6, k7, k8, k9, k10, k11⟩⟩ := HE.out.box.load
      have K0 := fun p => layB_cell k0 p
      have K1 := fun p => layB_cell k1 p
      have K2 := fun p => layB_cell k2 p
      have K3 := fun p => layB_cell k3 p
      have K4 := fun p => layB_cell k4 p
      have K5 := fun p => layB_cell k5 p
      have K6 := fun p => layB_cell k6 p
      have K7 := fun p => layB_cell k7 p
      have K8 := fun p => layB_cell k8 p
      have K9 := fun p => layB_cell k9 p
      have K10 := fun p => layB_cell k10 p
      have K11 := fun p => layB_cell k11 p
      clear k0 k1 k2 k3 k4 k5 k6 k7 k8 k9 k10 k11
      refine wp_region_layB (by kernel_rfl) (by kernel_rfl) ?_
      repeat (go_big_quiet_step ((go_at_call 10; with_reducible exact CC.out _)))
      refine wpQuiet_nil ?_
      intro _ hw'
      obtain ⟨pq, hw''⟩ := hw'
      subst hw''
      replace Ha := Lib.hid (Ha.out.below (layB_below w2 pq))
      replace HE := Lib.hid (HE.out.step (layB_below w2 pq))
      generalize layB w2 pq = W2 at HE Ha ⊢
      clear K0 K1 K2 K3 K4 K5 K6 K7 K8 K9 K10 K11 K20 CC hf
      rcases hf3 with rfl | rfl | rfl
      · go_wp2
        go_loopw [10, 11, 68] (fun ve va i wr => ∃ k : Nat, k ≤ n ∧ i = .int .i64 k ∧ ve = .bool ((xs.take k).any (qB T 4)) ∧ va = .bool ((xs.take k).any (qB T 3)) ∧ Hid (LEnv W2 g x T wr)) (fun _ _ i _ => n - (intOf i).toNat)
        case atStart => exact ⟨0, Nat.zero_le _, rfl, rfl, rfl, ⟨HE.out.tab, HE.out.box, Below.refl _ _⟩⟩
        case round =>
          obtain ⟨k, hk, rfl, rfl, rfl, he⟩ := hrel
          by_cases hlt : k < n
          · have hkl : k < xs.length := by rw [HN.out]; exact hlt
            obtain ⟨b2, off2, e2, hck⟩ := (Ha.out.below he.out.bel) k hkl
            injection e2 with e2
            injection e2 with e2 e3 _
            subst e2
            subst e3
            obtain ⟨d, hd⟩ : ∃ c, xs.getD k 0 = c := ⟨_, rfl⟩
            obtain ⟨y, hy⟩ : ∃ y, Hid (bidT T d = y) := ⟨_, rfl⟩
            have HC := Lib.hid (HALL.out (xs.getD k 0) (by simp [hkl]))
            have HS4 := Lib.hid (qB_step (qB T 4) xs k hkl)
            have HS3 := Lib.hid (qB_step (qB T 3) xs k hkl)
            rw [hd] at hck HC HS4 HS3
            unfold qB at HS4 HS3
            rw [hy.out] at HC HS4 HS3
            have d11 : (y == 11) = false := by have := HC.out.1; simp [this]
            have d1 : (y == 1) = false := by have := HC.out.2.1 (by first | rfl | trivial); simp [this.1]
            have d2 : (y == 2) = false := by have := HC.out.2.1 (by first | rfl | trivial); simp [this.2.1]
            have d3 : (y == 3) = false := by have := HC.out.2.1 (by first | rfl | trivial); simp [this.2.2]
            obtain ⟨A, hA⟩ : ∃ A, (xs.take k).any (fun c => bidT T c == 4) = A := ⟨_, rfl⟩
            obtain ⟨X, hX⟩ : ∃ A, (xs.take k).any (fun c => bidT T c == 3) = A := ⟨_, rfl⟩
            rw [show (qB T 4) = (fun c => bidT T c == 4) from rfl, show (qB T 3) = (fun c => bidT T c == 3) from rfl] at *
            rw [hA] at HS4 ⊢
            rw [hX] at HS3 ⊢
            clear hA hX hd hkl
            obtain ⟨⟨k0, k1, k2, k3, k4, k5⟩, ⟨k6, k7, k8, k9, k10, k11⟩⟩ := he.out.box.load
            go_wp2_with fail
            refine (rbid_at x T d y _ he.out.tab HSB.out hy).mono ?_
            rintro e w4 ⟨rfl, hb⟩
            replace he := Lib.hid (he.out.step hb)
            clear hb hck HC k0 k1 k2 k3 k4 k5 k6 k7 k8 k9 k10 k11
            cases A <;> cases X
            · go_wp2
              go_roundw
              case rel => exact ⟨k + 1, by omega, by go_num, by rw [HS4.out, Bool.false_or], by first | (rw [HS3.out, Bool.false_or]; done) | (rw [HS3.out, Bool.false_or, d3]), he⟩
              case measure => first | (simp [intOf]; done) | (simp [intOf]; omega)
            · go_wp2
              go_roundw
              case rel => exact ⟨k + 1, by omega, by go_num, by rw [HS4.out, Bool.false_or], by first | (rw [HS3.out, Bool.true_or]; done) | (rw [HS3.out, Bool.true_or, d3]), he⟩
              case measure => first | (simp [intOf]; done) | (simp [intOf]; omega)
            · go_wp2
              go_roundw
              case rel => exact ⟨k + 1, by omega, by go_num, by rw [HS4.out, Bool.true_or], by first | (rw [HS3.out, Bool.false_or]; done) | (rw [HS3.out, Bool.false_or, d3]), he⟩
              case measure => first | (simp [intOf]; done) | (simp [intOf]; omega)
            · go_wp2
              go_roundw
              case rel => exact ⟨k + 1, by omega, by go_num, by rw [HS4.out, Bool.true_or], by first | (rw [HS3.out, Bool.true_or]; done) | (rw [HS3.out, Bool.true_or, d3]), he⟩
              case measure => first | (simp [intOf]; done) | (simp [intOf]; omega)
          · obtain rfl : k = n := by omega
            have e1 : (xs.take k).any (qB T 4) = hasB T xs [4] := by rw [List.take_of_length_le (by rw [HN.out]; exact Nat.le_refl _), hasB_q]
            have e2 : (xs.take k).any (qB T 3) = hasB T xs [3] := by rw [List.take_of_length_le (by rw [HN.out]; exact Nat.le_refl _), hasB_q]
            rw [e1, e2]
            obtain ⟨A, hA⟩ : ∃ A, hasB T xs [4] = A := ⟨_, rfl⟩
            obtain ⟨X, hX⟩ : ∃ A, hasB T xs [3] = A := ⟨_, rfl⟩
            have HP2 := HPAR.out
            rw [hA, hX] at HP2 ⊢
            have HP3 := Lib.hid HP2
            have hBf : B = false := by
              have h := HRTL.out
              rw [HBB.out] at h
              cases B with
              | false => rfl
              | true => exact absurd rfl (h.1 rfl)
            subst hBf
            have HF := Lib.hid (HE.out.step he.out.bel)
            have HA2 := Lib.hid (Ha.out.below he.out.bel)
            clear e1 e2 hA hX HP2 he
            go_wp2_with fail
            refine (awake16_any _ (HR.out.below HF.out.bel)).mono ?_
            rintro e w5 ⟨rfl, hb⟩
            replace HF := Lib.hid (HF.out.step hb)
            replace HA2 := Lib.hid (HA2.out.below hb)
            clear hb
            obtain ⟨⟨k0, k1, k2, k3, k4, k5⟩, ⟨k6, k7, k8, k9, k10, k11⟩⟩ := HF.out.box.load
            go_wp2_with fail
            refine (HOB.out _ HF.out.tab (HR.out.below HF.out.bel) HA2.out).mono ?_
            rintro e w6 ⟨rfl, hb⟩
            have HBZ := Lib.hid (HF.out.step hb).bel
            clear hb k0 k1 k2 k3 k4 k5 k6 k7 k8 k9 k10 k11
            go_wp2
            go_ret
            exact ⟨rfl, HBZ.out⟩
      · go_wp2
        go_loopw [10, 11, 68] (fun ve va i wr => ∃ k : Nat, k ≤ n ∧ i = .int .i64 k ∧ ve = .bool ((xs.take k).any (qB T 4)) ∧ va = .bool ((xs.take k).any (qB T 3)) ∧ Hid (LEnv W2 g x T wr)) (fun _ _ i _ => n - (intOf i).toNat)
        case atStart => exact ⟨0, Nat.zero_le _, rfl, rfl, rfl, ⟨HE.out.tab, HE.out.box, Below.refl _ _⟩⟩
        case round =>
          obtain ⟨k, hk, rfl, rfl, rfl, he⟩ := hrel
          by_cases hlt : k < n
          · have hkl : k < xs.length := by rw [HN.out]; exact hlt
            obtain ⟨b2, off2, e2, hck⟩ := (Ha.out.below he.out.bel) k hkl
            injection e2 with e2
            injection e2 with e2 e3 _
            subst e2
            subst e3
            obtain ⟨d, hd⟩ : ∃ c, xs.getD k 0 = c := ⟨_, rfl⟩
            obtain ⟨y, hy⟩ : ∃ y, Hid (bidT T d = y) := ⟨_, rfl⟩
            have HC := Lib.hid (HALL.out (xs.getD k 0) (by simp [hkl]))
            have HS4 := Lib.hid (qB_step (qB T 4) xs k hkl)
            have HS3 := Lib.hid (qB_step (qB T 3) xs k hkl)
            rw [hd] at hck HC HS4 HS3
            unfold qB at HS4 HS3
            rw [hy.out] at HC HS4 HS3
            have d11 : (y == 11) = false := by have := HC.out.1; simp [this]
            have d0 : (y == 0) = false := by have := HC.out.2.2 (by first | decide | simp | trivial); simp [this]
            obtain ⟨A, hA⟩ : ∃ A, (xs.take k).any (fun c => bidT T c == 4) = A := ⟨_, rfl⟩
            obtain ⟨X, hX⟩ : ∃ A, (xs.take k).any (fun c => bidT T c == 3) = A := ⟨_, rfl⟩
            rw [show (qB T 4) = (fun c => bidT T c == 4) from rfl, show (qB T 3) = (fun c => bidT T c == 3) from rfl] at *
            rw [hA] at HS4 ⊢
            rw [hX] at HS3 ⊢
            clear hA hX hd hkl
            obtain ⟨⟨k0, k1, k2, k3, k4, k5⟩, ⟨k6, k7, k8, k9, k10, k11⟩⟩ := he.out.box.load
            go_wp2_with fail
            refine (rbid_at x T d y _ he.out.tab HSB.out hy).mono ?_
            rintro e w4 ⟨rfl, hb⟩
            replace he := Lib.hid (he.out.step hb)
            clear hb hck HC k0 k1 k2 k3 k4 k5 k6 k7 k8 k9 k10 k11
            cases A <;> cases X
            · go_wp2
              go_roundw
              case rel => exact ⟨k + 1, by omega, by go_num, by rw [HS4.out, Bool.false_or], by rw [HS3.out, Bool.false_or], he⟩
              case measure => first | (simp [intOf]; done) | (simp [intOf]; omega)
            · go_wp2
              go_roundw
              case rel => exact ⟨k + 1, by omega, by go_num, by rw [HS4.out, Bool.false_or], by rw [HS3.out, Bool.true_or], he⟩
              case measure => first | (simp [intOf]; done) | (simp [intOf]; omega)
            · go_wp2
              go_roundw
              case rel => exact ⟨k + 1, by omega, by go_num, by rw [HS4.out, Bool.true_or], by rw [HS3.out, Bool.false_or], he⟩
              case measure => first | (simp [intOf]; done) | (simp [intOf]; omega)
            · go_wp2
              go_roundw
              case rel => exact ⟨k + 1, by omega, by go_num, by rw [HS4.out, Bool.true_or], by rw [HS3.out, Bool.true_or], he⟩
              case measure => first | (simp [intOf]; done) | (simp [intOf]; omega)
          · obtain rfl : k = n := by omega
            have e1 : (xs.take k).any (qB T 4) = hasB T xs [4] := by rw [List.take_of_length_le (by rw [HN.out]; exact Nat.le_refl _), hasB_q]
            have e2 : (xs.take k).any (qB T 3) = hasB T xs [3] := by rw [List.take_of_length_le (by rw [HN.out]; exact Nat.le_refl _), hasB_q]
            rw [e1, e2]
            obtain ⟨A, hA⟩ : ∃ A, hasB T xs [4] = A := ⟨_, rfl⟩
            obtain ⟨X, hX⟩ : ∃ A, hasB T xs [3] = A := ⟨_, rfl⟩
            have HP2 := HPAR.out
            rw [hA, hX] at HP2 ⊢
            have HP3 := Lib.hid HP2
            have hBf : B = true := by
              have h := HRTL.out
              rw [HBB.out] at h
              exact h.2 (by decide)
            subst hBf
            have HF := Lib.hid (HE.out.step he.out.bel)
            have HA2 := Lib.hid (Ha.out.below he.out.bel)
            clear e1 e2 hA hX HP2 he
            cases A with
            | false =>
              go_wp2_with fail
              refine (awake16_any _ (HR.out.below HF.out.bel)).mono ?_
              rintro e w5 ⟨rfl, hb⟩
              replace HF := Lib.hid (HF.out.step hb)
              replace HA2 := Lib.hid (HA2.out.below hb)
              clear hb
              obtain ⟨⟨k0, k1, k2, k3, k4, k5⟩, ⟨k6, k7, k8, k9, k10, k11⟩⟩ := HF.out.box.load
              go_wp2_with fail
              refine (HOB.out _ HF.out.tab (HR.out.below HF.out.bel) HA2.out).mono ?_
              rintro e w6 ⟨rfl, hb⟩
              have HBZ := Lib.hid (HF.out.step hb).bel
              clear hb k0 k1 k2 k3 k4 k5 k6 k7 k8 k9 k10 k11
              go_wp2
              go_ret
              exact ⟨rfl, HBZ.out⟩
            | true =>
              have hxf : X = false := by
                cases X with
                | false => rfl
                | true => exact absurd ⟨rfl, rfl⟩ (HP3.out.resolve_left (by decide))
              subst hxf
              go_wp2_with fail
              refine (awake16_any _ (HR.out.below HF.out.bel)).mono ?_
              rintro e w5 ⟨rfl, hb⟩
              replace HF := Lib.hid (HF.out.step hb)
              replace HA2 := Lib.hid (HA2.out.below hb)
              clear hb
              obtain ⟨⟨k0, k1, k2, k3, k4, k5⟩, ⟨k6, k7, k8, k9, k10, k11⟩⟩ := HF.out.box.load
              go_wp2_with fail
              refine (HOB.out _ HF.out.tab (HR.out.below HF.out.bel) HA2.out).mono ?_
              rintro e w6 ⟨rfl, hb⟩
              have HBZ := Lib.hid (HF.out.step hb).bel
              clear hb k0 k1 k2 k3 k4 k5 k6 k7 k8 k9 k10 k11
              go_wp2
              go_ret
              exact ⟨rfl, HBZ.out⟩
      · go_wp2
        go_loopw [10, 11, 68] (fun ve va i wr => ∃ k : Nat, k ≤ n ∧ i = .int .i64 k ∧ ve = .bool ((xs.take k).any (qB T 4)) ∧ va = .bool ((xs.take k).any (qB T 3)) ∧ Hid (LEnv W2 g x T wr)) (fun _ _ i _ => n - (intOf i).toNat)
        case atStart => exact ⟨0, Nat.zero_le _, rfl, rfl, rfl, ⟨HE.out.tab, HE.out.box, Below.refl _ _⟩⟩
        case round =>
          obtain ⟨k, hk, rfl, rfl, rfl, he⟩ := hrel
          by_cases hlt : k < n
          · have hkl : k < xs.length := by rw [HN.out]; exact hlt
            obtain ⟨b2, off2, e2, hck⟩ := (Ha.out.below he.out.bel) k hkl
            injection e2 with e2
            injection e2 with e2 e3 _
            subst e2
            subst e3
            obtain ⟨d, hd⟩ : ∃ c, xs.getD k 0 = c := ⟨_, rfl⟩
            obtain ⟨y, hy⟩ : ∃ y, Hid (bidT T d = y) := ⟨_, rfl⟩
            have HC := Lib.hid (HALL.out (xs.getD k 0) (by simp [hkl]))
            have HS4 := Lib.hid (qB_step (qB T 4) xs k hkl)
            have HS3 := Lib.hid (qB_step (qB T 3) xs k hkl)
            rw [hd] at hck HC HS4 HS3
            unfold qB at HS4 HS3
            rw [hy.out] at HC HS4 HS3
            have d11 : (y == 11) = false := by have := HC.out.1; simp [this]
            have d0 : (y == 0) = false := by have := HC.out.2.2 (by first | decide | simp | trivial); simp [this]
            obtain ⟨A, hA⟩ : ∃ A, (xs.take k).any (fun c => bidT T c == 4) = A := ⟨_, rfl⟩
            obtain ⟨X, hX⟩ : ∃ A, (xs.take k).any (fun c => bidT T c == 3) = A := ⟨_, rfl⟩
            rw [show (qB T 4) = (fun c => bidT T c == 4) from rfl, show (qB T 3) = (fun c => bidT T c == 3) from rfl] at *
            rw [hA] at HS4 ⊢
            rw [hX] at HS3 ⊢
            clear hA hX hd hkl
            obtain ⟨⟨k0, k1, k2, k3, k4, k5⟩, ⟨k6, k7, k8, k9, k10, k11⟩⟩ := he.out.box.load
            go_wp2_with fail
            refine (rbid_at x T d y _ he.out.tab HSB.out hy).mono ?_
            rintro e w4 ⟨rfl, hb⟩
            replace he := Lib.hid (he.out.step hb)
            clear hb hck HC k0 k1 k2 k3 k4 k5 k6 k7 k8 k9 k10 k11
            cases A <;> cases X
            · go_wp2
              go_roundw
              case rel => exact ⟨k + 1, by omega, by go_num, by rw [HS4.out, Bool.false_or], by rw [HS3.out, Bool.false_or], he⟩
              case measure => first | (simp [intOf]; done) | (simp [intOf]; omega)
            · go_wp2
              go_roundw
              case rel => exact ⟨k + 1, by omega, by go_num, by rw [HS4.out, Bool.false_or], by rw [HS3.out, Bool.true_or], he⟩
              case measure => first | (simp [intOf]; done) | (simp [intOf]; omega)
            · go_wp2
              go_roundw
              case rel => exact ⟨k + 1, by omega, by go_num, by rw [HS4.out, Bool.true_or], by rw [HS3.out, Bool.false_or], he⟩
              case measure => first | (simp [intOf]; done) | (simp [intOf]; omega)
            · go_wp2
              go_roundw
              case rel => exact ⟨k + 1, by omega, by go_num, by rw [HS4.out, Bool.true_or], by rw [HS3.out, Bool.true_or], he⟩
              case measure => first | (simp [intOf]; done) | (simp [intOf]; omega)
          · obtain rfl : k = n := by omega
            have e1 : (xs.take k).any (qB T 4) = hasB T xs [4] := by rw [List.take_of_length_le (by rw [HN.out]; exact Nat.le_refl _), hasB_q]
            have e2 : (xs.take k).any (qB T 3) = hasB T xs [3] := by rw [List.take_of_length_le (by rw [HN.out]; exact Nat.le_refl _), hasB_q]
            rw [e1, e2]
            obtain ⟨A, hA⟩ : ∃ A, hasB T xs [4] = A := ⟨_, rfl⟩
            obtain ⟨X, hX⟩ : ∃ A, hasB T xs [3] = A := ⟨_, rfl⟩
            have HP2 := HPAR.out
            rw [hA, hX] at HP2 ⊢
            have HP3 := Lib.hid HP2
            have hBf : B = true := by
              have h := HRTL.out
              rw [HBB.out] at h
              exact h.2 (by decide)
            subst hBf
            have HF := Lib.hid (HE.out.step he.out.bel)
            have HA2 := Lib.hid (Ha.out.below he.out.bel)
            clear e1 e2 hA hX HP2 he
            cases A with
            | false =>
              go_wp2_with fail
              refine (awake16_any _ (HR.out.below HF.out.bel)).mono ?_
              rintro e w5 ⟨rfl, hb⟩
              replace HF := Lib.hid (HF.out.step hb)
              replace HA2 := Lib.hid (HA2.out.below hb)
              clear hb
              obtain ⟨⟨k0, k1, k2, k3, k4, k5⟩, ⟨k6, k7, k8, k9, k10, k11⟩⟩ := HF.out.box.load
              go_wp2_with fail
              refine (HOB.out _ HF.out.tab (HR.out.below HF.out.bel) HA2.out).mono ?_
              rintro e w6 ⟨rfl, hb⟩
              have HBZ := Lib.hid (HF.out.step hb).bel
              clear hb k0 k1 k2 k3 k4 k5 k6 k7 k8 k9 k10 k11
              go_wp2
              go_ret
              exact ⟨rfl, HBZ.out⟩
            | true =>
              have hxf : X = false := by
                cases X with
                | false => rfl
                | true => exact absurd ⟨rfl, rfl⟩ (HP3.out.resolve_left (by decide))
              subst hxf
              go_wp2_with fail
              refine (awake16_any _ (HR.out.below HF.out.bel)).mono ?_
              rintro e w5 ⟨rfl, hb⟩
              replace HF := Lib.hid (HF.out.step hb)
              replace HA2 := Lib.hid (HA2.out.below hb)
              clear hb
              obtain ⟨⟨k0, k1, k2, k3, k4, k5⟩, ⟨k6, k7, k8, k9, k10, k11⟩⟩ := HF.out.box.load
              go_wp2_with fail
              refine (HOB.out _ HF.out.tab (HR.out.below HF.out.bel) HA2.out).mono ?_
              rintro e w6 ⟨rfl, hb⟩
              have HBZ := Lib.hid (HF.out.step hb).bel
              clear hb k0 k1 k2 k3 k4 k5 k6 k7 k8 k9 k10 k11
              go_wp2
              go_ret
              exact ⟨rfl, HBZ.out⟩

end Go.Proofs.YtiafhifbgdkgaaaDoor
