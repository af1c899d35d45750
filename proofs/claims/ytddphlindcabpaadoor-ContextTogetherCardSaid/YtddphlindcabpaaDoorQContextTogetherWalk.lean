/-
  The walk of ContextTogether (genCY.py).
-/
import Derived.Test.YtddphlindcabpaaDoorPkZZK
import Derived.Deep.RegionHeld3
set_option linter.unusedSimpArgs false
set_option linter.unusedVariables false
namespace Go.Proofs.YtddphlindcabpaaDoor
open Go.RowKit
set_option linter.unusedVariables false

set_option maxRecDepth 100000 in
set_option maxHeartbeats 8000000 in
theorem contextTogether_walk (p0 : Option Addr) (cap0 : Nat) (zs0 : List Int) (p1 : Option Addr) (cap1 : Nat) (zs1 : List Int) (p2 : Option Addr) (cap2 : Nat) (zs2 : List Int) (w : World) (hin0 : IntsIn w p0 zs0) (hl0 : zs0.length ≤ 17592186043904) (hin1 : IntsIn w p1 zs1) (hl1 : zs1.length ≤ 17592186043904) (hin2 : IntsIn w p2 zs2) (hl2 : zs2.length ≤ 17592186043904) (hr : Rsv w) :
    Calls Tryd.prog 4 #[.slice p0 zs0.length cap0, .slice p1 zs1.length cap1, .slice p2 zs2.length cap2] w (Gives (.bool true) w) := by
  have HI0 := Lib.hid hin0
  have HL0 := Lib.hid hl0
  have HI1 := Lib.hid hin1
  have HL1 := Lib.hid hl1
  have HI2 := Lib.hid hin2
  have HL2 := Lib.hid hl2
  have HR := Lib.hid hr
  clear hin0 hl0 hin1 hl1 hin2 hl2 hr
  go_enter Tryd.func4, Tryd.ntmps4
  go_wp2_with fail
  refine (tables_any p0 cap0 zs0 _ HI0.out HL0.out).mono ?_
  rintro e w1 ⟨⟨a0, a1, a2, a3, a4, a5, a6, a7, a8, a9, a10, a11⟩, T, rfl, htv, hm, hcap1, hb1⟩
  obtain ⟨pa0, na0, qa0, hsl0⟩ : Slc a0 := htv.cat.slc
  subst hsl0
  obtain ⟨pa1, na1, qa1, hsl1⟩ : Slc a1 := htv.cls.slc
  subst hsl1
  obtain ⟨pa2, na2, qa2, hsl2⟩ : Slc a2 := htv.joi.slc
  subst hsl2
  obtain ⟨pa3, na3, qa3, hsl3⟩ : Slc a3 := htv.bid.slc
  subst hsl3
  obtain ⟨pa4, na4, qa4, hsl4⟩ : Slc a4 := htv.scr.slc
  subst hsl4
  obtain ⟨pa5, na5, qa5, hsl5⟩ : Slc a5 := htv.sta.slc
  subst hsl5
  obtain ⟨pa6, na6, qa6, hsl6⟩ : Slc a6 := htv.ign.slc
  subst hsl6
  obtain ⟨pa7, na7, qa7, hsl7⟩ : Slc a7 := htv.ext.slc
  subst hsl7
  obtain ⟨pa8, na8, qa8, hsl8⟩ : Slc a8 := htv.map.slc
  subst hsl8
  obtain ⟨pa9, na9, qa9, hsl9⟩ : Slc a9 := htv.dec.slc
  subst hsl9
  obtain ⟨pa10, na10, qa10, hsl10⟩ : Slc a10 := htv.exc.slc
  subst hsl10
  obtain ⟨pa11, na11, qa11, hsl11⟩ : Slc a11 := htv.pro.slc
  subst hsl11
  have hba1 : Below w1.heap.size w1 (w1.alloc (.cells (tabCells ⟨.slice pa0 na0 qa0, .slice pa1 na1 qa1, .slice pa2 na2 qa2, .slice pa3 na3 qa3, .slice pa4 na4 qa4, .slice pa5 na5 qa5, .slice pa6 na6 qa6, .slice pa7 na7 qa7, .slice pa8 na8 qa8, .slice pa9 na9 qa9, .slice pa10 na10 qa10, .slice pa11 na11 qa11⟩) 26)) := (Below.refl _ _).alloc (Nat.le_refl _) _
  have HT1 : Hid (TabV (w1.alloc (.cells (tabCells ⟨.slice pa0 na0 qa0, .slice pa1 na1 qa1, .slice pa2 na2 qa2, .slice pa3 na3 qa3, .slice pa4 na4 qa4, .slice pa5 na5 qa5, .slice pa6 na6 qa6, .slice pa7 na7 qa7, .slice pa8 na8 qa8, .slice pa9 na9 qa9, .slice pa10 na10 qa10, .slice pa11 na11 qa11⟩) 26)) ⟨.slice pa0 na0 qa0, .slice pa1 na1 qa1, .slice pa2 na2 qa2, .slice pa3 na3 qa3, .slice pa4 na4 qa4, .slice pa5 na5 qa5, .slice pa6 na6 qa6, .slice pa7 na7 qa7, .slice pa8 na8 qa8, .slice pa9 na9 qa9, .slice pa10 na10 qa10, .slice pa11 na11 qa11⟩ T) := htv.below hba1
  have HX1 : Hid (BoxT (w1.alloc (.cells (tabCells ⟨.slice pa0 na0 qa0, .slice pa1 na1 qa1, .slice pa2 na2 qa2, .slice pa3 na3 qa3, .slice pa4 na4 qa4, .slice pa5 na5 qa5, .slice pa6 na6 qa6, .slice pa7 na7 qa7, .slice pa8 na8 qa8, .slice pa9 na9 qa9, .slice pa10 na10 qa10, .slice pa11 na11 qa11⟩) 26)) w1.heap.size ⟨.slice pa0 na0 qa0, .slice pa1 na1 qa1, .slice pa2 na2 qa2, .slice pa3 na3 qa3, .slice pa4 na4 qa4, .slice pa5 na5 qa5, .slice pa6 na6 qa6, .slice pa7 na7 qa7, .slice pa8 na8 qa8, .slice pa9 na9 qa9, .slice pa10 na10 qa10, .slice pa11 na11 qa11⟩) := BoxT.new _ _ _
  have HB1 : Hid (Below w.heap.size w (w1.alloc (.cells (tabCells ⟨.slice pa0 na0 qa0, .slice pa1 na1 qa1, .slice pa2 na2 qa2, .slice pa3 na3 qa3, .slice pa4 na4 qa4, .slice pa5 na5 qa5, .slice pa6 na6 qa6, .slice pa7 na7 qa7, .slice pa8 na8 qa8, .slice pa9 na9 qa9, .slice pa10 na10 qa10, .slice pa11 na11 qa11⟩) 26))) := hb1.trans (hba1.mono hb1.size)
  have HM := Lib.hid hm
  have HCAP : Hid (CapOf ⟨.slice pa0 na0 qa0, .slice pa1 na1 qa1, .slice pa2 na2 qa2, .slice pa3 na3 qa3, .slice pa4 na4 qa4, .slice pa5 na5 qa5, .slice pa6 na6 qa6, .slice pa7 na7 qa7, .slice pa8 na8 qa8, .slice pa9 na9 qa9, .slice pa10 na10 qa10, .slice pa11 na11 qa11⟩) := hcap1
  clear htv hm hcap1 hb1 hba1
  simp only [tabCells] at HT1 HX1 HB1
  go_wp2_with fail
  generalize (w1.alloc (.cells #[.slice pa0 na0 qa0, .slice pa1 na1 qa1, .slice pa2 na2 qa2, .slice pa3 na3 qa3, .slice pa4 na4 qa4, .slice pa5 na5 qa5, .slice pa6 na6 qa6, .slice pa7 na7 qa7, .slice pa8 na8 qa8, .slice pa9 na9 qa9, .slice pa10 na10 qa10, .slice pa11 na11 qa11] 26)) = W at HT1 HX1 HB1 ⊢
  generalize w1.heap.size = g at HX1 ⊢
  generalize (⟨.slice pa0 na0 qa0, .slice pa1 na1 qa1, .slice pa2 na2 qa2, .slice pa3 na3 qa3, .slice pa4 na4 qa4, .slice pa5 na5 qa5, .slice pa6 na6 qa6, .slice pa7 na7 qa7, .slice pa8 na8 qa8, .slice pa9 na9 qa9, .slice pa10 na10 qa10, .slice pa11 na11 qa11⟩ : TV) = x at HT1 HX1 HCAP
  have HE : Hid (LEnv w g x T W) := ⟨HT1.out, HX1.out, HB1.out⟩
  clear HT1 HX1 HB1
  refine (special_any p1 cap1 zs1 _ (HI1.out.below HE.out.bel) HL1.out).mono ?_
  rintro e wa ⟨xa, va, rfl, hna, hsa, hi, hb⟩
  obtain ⟨pa, ca, rfl, hia⟩ := hi.inn
  replace HE := Lib.hid (HE.out.step hb)
  have Ha := Lib.hid hia
  have HSa := Lib.hid hsa
  clear hi hb hia hsa
  go_wp2_with fail
  refine (special_any p2 cap2 zs2 _ (HI2.out.below HE.out.bel) HL2.out).mono ?_
  rintro e wb ⟨xb, vb, rfl, hnb, hsb, hi, hb⟩
  obtain ⟨pb, cb, rfl, hib⟩ := hi.inn
  replace HE := Lib.hid (HE.out.step hb)
  replace Ha := Lib.hid (Ha.out.below hb)
  have Hb := Lib.hid hib
  have HSb := Lib.hid hsb
  clear hi hb hib hsb
  obtain ⟨U, hU⟩ : ∃ U, xa ++ [46] ++ xb = U := ⟨_, rfl⟩
  have haa : accE T xa = 0 := accE_zero HM.out.check (by omega) HSa.out
  have hab : accE T xb = 0 := accE_zero HM.out.check (by omega) HSb.out
  have hau : accE T U = 0 := accE_zero HM.out.check (by rw [← hU]; simp; omega) (by rw [← hU, List.all_append, List.all_append, HSa.out, HSb.out]; rfl)
  obtain ⟨Ka, Ea, hA⟩ : ∃ K E, Hid (chkC T xa = (K, E)) := ⟨_, _, rfl⟩
  obtain ⟨Kb, Eb, hB⟩ : ∃ K E, Hid (chkC T xb = (K, E)) := ⟨_, _, rfl⟩
  obtain ⟨Kz, Ez, hZ⟩ : ∃ K E, Hid (chkC T U = (K, E)) := ⟨_, _, rfl⟩
  have HOKA : Hid (Ea = 0 → okC T xa) := fun h => (chkC_okC haa).1 (by rw [hA.out]; exact h)
  have HOKB : Hid (Eb = 0 → okC T xb) := fun h => (chkC_okC hab).1 (by rw [hB.out]; exact h)
  have HEZ : Hid (Ez = 0 ∨ Ez = 18) := by have := chkC_err hau; rw [hZ.out] at this; exact this
  have HOKZ : Hid (Ez = 0 ↔ okC T U) := by have := chkC_okC hau; rw [hZ.out] at this; exact this
  have HTG : Hid (Ea = 0 → Eb = 0 → (Ez = 0 ↔ ¬ (U.any arB = true ∧ U.any exB = true))) := fun h1 h2 => by
    have := together (HOKA.out h1) (HOKB.out h2)
    rw [hU] at this
    exact HOKZ.out.trans this
  have hul : U.length = xa.length + 1 + xb.length := by rw [← hU]; simp; omega
  have hna7 : xa.length ≤ 10 := by omega
  have hnb7 : xb.length ≤ 10 := by omega
  obtain ⟨na, hna2⟩ : ∃ n, xa.length = n := ⟨_, rfl⟩
  obtain ⟨nb, hnb2⟩ : ∃ n, xb.length = n := ⟨_, rfl⟩
  obtain ⟨nu, hnu⟩ : ∃ n, U.length = n := ⟨_, rfl⟩
  have hoa := fun W (h1 : TabV W x T) h2 h3 => ccheck_at x T pa ca xa Ka Ea W h1 h2 h3 (by omega) hA
  have hob := fun W (h1 : TabV W x T) h2 h3 => ccheck_at x T pb cb xb Kb Eb W h1 h2 h3 (by omega) hB
  have hoz := fun pz cz W (h1 : TabV W x T) h2 h3 => ccheck_at x T pz cz U Kz Ez W h1 h2 h3 (by omega) hZ
  rw [hna2] at hoa hna7 ⊢
  rw [hnb2] at hob hnb7 ⊢
  rw [hnu] at hoz
  have hnu2 : nu ≤ 21 := by omega
  have HOA := Lib.hid hoa
  have HOB := Lib.hid hob
  have HOZ := Lib.hid hoz
  have HNA := Lib.hid hna2
  have HNB := Lib.hid hnb2
  have HNU := Lib.hid hnu
  have HUU := Lib.hid hU
  clear haa hab hau hul hU hna2 hnb2 hnu hoa hob hoz hA hB hZ HOKA HOKB HOKZ HSa HSb hna hnb
  obtain ⟨⟨k0, k1, k2, k3, k4, k5⟩, ⟨k6, k7, k8, k9, k10, k11⟩⟩ := HE.out.box.load
  go_wp2_with fail
  refine (HOA.out _ HE.out.tab (HR.out.below HE.out.bel) Ha.out).mono ?_
  rintro e w4 ⟨rfl, hb⟩
  replace HE := Lib.hid (HE.out.step hb)
  replace Ha := Lib.hid (Ha.out.below hb)
  replace Hb := Lib.hid (Hb.out.below hb)
  clear hb k0 k1 k2 k3 k4 k5 k6 k7 k8 k9 k10 k11
  obtain ⟨⟨k0, k1, k2, k3, k4, k5⟩, ⟨k6, k7, k8, k9, k10, k11⟩⟩ := HE.out.box.load
  go_wp2_with fail
  refine (HOB.out _ HE.out.tab (HR.out.below HE.out.bel) Hb.out).mono ?_
  rintro e w5 ⟨rfl, hb⟩
  replace HE := Lib.hid (HE.out.step hb)
  replace Ha := Lib.hid (Ha.out.below hb)
  replace Hb := Lib.hid (Hb.out.below hb)
  clear hb k0 k1 k2 k3 k4 k5 k6 k7 k8 k9 k10 k11
  by_cases hea : Ea = 0
  · by_cases heb : Eb = 0
    · have HT2 := Lib.hid (HTG.out hea heb)
      have d1 : (Ea != 0) = false := by simp [hea]
      have d2 : (Eb != 0) = false := by simp [heb]
      clear hea heb HTG HOA HOB
      have HLA : Hid (([] : List Int).length + xa.length ≤ 17592186043904) := by unfold Hid; rw [HNA.out]; simp; omega
      have HLB : Hid ((([] : List Int) ++ xa).length + ([46] : List Int).length ≤ 17592186043904) := by unfold Hid; simp [HNA.out]; omega
      have HLC : Hid ((([] : List Int) ++ xa ++ [46]).length + xb.length ≤ 17592186043904) := by unfold Hid; simp [HNA.out, HNB.out]; omega
      have HUV : Hid (([] : List Int) ++ xa ++ [46] ++ xb = U) := by unfold Hid; rw [← HUU.out]; simp
      have HAL : Hid (∀ (v : Value) (X : List Int) (W2 : World), Ints W2 w5.heap.size v X → Ints (W2.alloc (.cells #[.int .i64 46] 3)) w5.heap.size v X) := fun v X W2 h => World.ownsRow.alloc h _
      go_wp2_with (first
        | (at_builtin; refine wpList_append_ints (.const (.slice none 0 0)) (.tmp 46) rfl rfl w5.heap.size (.slice none 0 0) [] rfl (Ints.nil _ _) pa na ca xa HNA.out rfl Ha.out HLA.out (Nat.le_refl _) ?_; intro v6 w6 ho6 hg6; have hb6 : Below w5.heap.size w5 w6 := below_appI (Below.refl _ _) (Ints.nil w5 w5.heap.size) (Nat.le_refl _) hg6)
        | (at_builtin; refine wpList_append_ints (.tmp 47) (.tmp 48) rfl rfl w5.heap.size v6 ([] ++ xa) rfl (HAL.out _ _ _ ho6) (some ⟨w6.heap.size, 0, none⟩) 1 1 [46] rfl rfl (cx_one w6 46) HLB.out (by have := hb6.size; simp; omega) ?_; intro v7 w7 ho7 hg7; have hb7 : Below w5.heap.size w5 w7 := below_appI (hb6.alloc hb6.size _) (HAL.out _ _ _ ho6) (Nat.le_refl _) hg7)
        | (at_builtin; refine wpList_append_ints (.tmp 49) (.tmp 50) rfl rfl w5.heap.size v7 ([] ++ xa ++ [46]) rfl ho7 pb nb cb xb HNB.out rfl (Hb.out.below hb7) HLC.out hb7.size ?_; intro v8 w8 ho8 hg8; have hb8 : Below w5.heap.size w5 w8 := below_appI hb7 ho7 (Nat.le_refl _) hg8; rw [HUV.out] at ho8; obtain ⟨p8, c8, e8, hi8⟩ := ho8.inn; rw [HNU.out] at e8; subst e8; have h0 := HE.out.step hb8; obtain ⟨⟨k0, k1, k2, k3, k4, k5⟩, ⟨k6, k7, k8, k9, k10, k11⟩⟩ := h0.box.load)
        | fail)
      replace HE := Lib.hid (HE.out.step hb8)
      have HI8 := Lib.hid hi8
      refine (HOZ.out _ _ _ HE.out.tab (HR.out.below HE.out.bel) HI8.out).mono ?_
      rintro e w9 ⟨rfl, hb⟩
      replace HE := Lib.hid (HE.out.step hb)
      replace HI8 := Lib.hid (HI8.out.below hb)
      clear hb hi8 hb8 ho8 hg8 hb7 ho7 hg7 hb6 ho6 hg6 h0 HOZ HUV HUU HLA HLB HLC HAL k0 k1 k2 k3 k4 k5 k6 k7 k8 k9 k10 k11
      go_wp2
      go_loopw [17, 18, 60] (fun va ve i wr => ∃ k : Nat, k ≤ nu ∧ i = .int .i64 k ∧ va = .bool ((U.take k).any arB) ∧ ve = .bool ((U.take k).any exB) ∧ Hid (Below w9.heap.size w9 wr)) (fun _ _ i _ => nu - (intOf i).toNat)
      case atStart => exact ⟨0, Nat.zero_le _, rfl, rfl, rfl, Lib.hid (Below.refl _ _)⟩
      case round =>
        obtain ⟨k, hk, rfl, rfl, rfl, hbj⟩ := hrel
        by_cases hlt : k < nu
        · have hkl : k < U.length := by rw [HNU.out]; exact hlt
          obtain ⟨b2, off2, rfl, hck⟩ := (HI8.out.below hbj.out) k hkl
          obtain ⟨c, hc⟩ : ∃ c, U.getD k 0 = c := ⟨_, rfl⟩
          rw [hc] at hck
          have HSA := Lib.hid (any_step arB U k hkl)
          have HSX := Lib.hid (any_step exB U k hkl)
          rw [hc] at HSA HSX
          obtain ⟨A, hA⟩ : ∃ A, (U.take k).any arB = A := ⟨_, rfl⟩
          obtain ⟨X, hX⟩ : ∃ A, (U.take k).any exB = A := ⟨_, rfl⟩
          rw [hA] at HSA ⊢
          rw [hX] at HSX ⊢
          clear hA hX hc hkl
          go_upto_region 13 with (fail)
          go_cut [17] (fun v wx => v = .bool (A || arB c) ∧ wx = wr)
          case first =>
            cases A with
            | true =>
              go_wp2_with fail
              go_meet
              exact ⟨rfl, rfl⟩
            | false =>
              by_cases h1 : 1632 ≤ c
              · have g1 : decide ((1632 : Int) ≤ c) = true := decide_eq_true h1
                have e1 : Hid (arB c = decide (c ≤ 1641)) := by unfold Hid arB; rw [g1, Bool.true_and]
                clear h1
                go_wp2_with fail
                go_meet
                exact ⟨by rw [e1.out, Bool.false_or], rfl⟩
              · have g1 : decide ((1632 : Int) ≤ c) = false := decide_eq_false h1
                have e1 : Hid (arB c = false) := by unfold Hid arB; rw [g1, Bool.false_and]
                clear h1
                go_wp2_with fail
                go_meet
                exact ⟨by rw [e1.out, Bool.false_or], rfl⟩
          case rest =>
            obtain ⟨rfl, rfl⟩ := hcut
            go_upto_region 14 with (fail)
            cases X with
            | true =>
              go_wp2
              go_roundw
              case rel => exact ⟨k + 1, by omega, by go_num, by rw [HSA.out], by rw [HSX.out, Bool.true_or], hbj⟩
              case measure => first | (simp [intOf]; done) | (simp [intOf]; omega)
            | false =>
              by_cases h1 : 1776 ≤ c
              · have g1 : decide ((1776 : Int) ≤ c) = true := decide_eq_true h1
                have e1 : Hid (exB c = decide (c ≤ 1785)) := by unfold Hid exB; rw [g1, Bool.true_and]
                clear h1
                go_wp2
                go_roundw
                case rel => exact ⟨k + 1, by omega, by go_num, by rw [HSA.out], by rw [HSX.out, e1.out, Bool.false_or], hbj⟩
                case measure => first | (simp [intOf]; done) | (simp [intOf]; omega)
              · have g1 : decide ((1776 : Int) ≤ c) = false := decide_eq_false h1
                have e1 : Hid (exB c = false) := by unfold Hid exB; rw [g1, Bool.false_and]
                clear h1
                go_wp2
                go_roundw
                case rel => exact ⟨k + 1, by omega, by go_num, by rw [HSA.out], by rw [HSX.out, e1.out, Bool.false_or], hbj⟩
                case measure => first | (simp [intOf]; done) | (simp [intOf]; omega)
        · obtain rfl : k = nu := by omega
          have e1 : (U.take k).any arB = U.any arB := by rw [List.take_of_length_le (by rw [HNU.out]; exact Nat.le_refl _)]
          have e2 : (U.take k).any exB = U.any exB := by rw [List.take_of_length_le (by rw [HNU.out]; exact Nat.le_refl _)]
          rw [e1, e2]
          have HT3 := HT2.out
          obtain ⟨A, hA⟩ : ∃ A, U.any arB = A := ⟨_, rfl⟩
          obtain ⟨X, hX⟩ : ∃ A, U.any exB = A := ⟨_, rfl⟩
          rw [hA, hX] at HT3 ⊢
          have HE4 := Lib.hid (HE.out.step hbj.out)
          have HEZ2 := HEZ.out
          clear e1 e2 hA hX HT2 HEZ
          have hez : Ez = if A = true ∧ X = true then 18 else 0 := by
            by_cases h : A = true ∧ X = true
            · rw [if_pos h]
              exact HEZ2.resolve_left fun e => (HT3.1 e) h
            · rw [if_neg h]; exact HT3.2 h
          clear HT3 HEZ2
          cases A <;> cases X <;> (first | rw [if_pos ⟨rfl, rfl⟩] at hez | rw [if_neg (by simp)] at hez) <;> (subst hez; go_wp2_with fail; refine (awake15_any _ (HR.out.below HE4.out.bel)).mono ?_; rintro e wz ⟨rfl, hb⟩; have HBZ := Lib.hid (HE4.out.step hb).bel; clear hb; go_wp2; go_ret; exact ⟨rfl, HBZ.out⟩)
    · have d1 : (Ea != 0) = false := by simp [hea]
      have d2 : (Eb != 0) = true := by simp [heb]
      clear hea heb
      go_wp2_with fail
      refine (awake15_any _ (HR.out.below HE.out.bel)).mono ?_
      rintro e w9 ⟨rfl, hb⟩
      have HBZ := Lib.hid (HE.out.step hb).bel
      clear hb
      go_wp2
      go_ret
      exact ⟨rfl, HBZ.out⟩
  · have d1 : (Ea != 0) = true := by simp [hea]
    clear hea
    go_wp2_with fail
    refine (awake15_any _ (HR.out.below HE.out.bel)).mono ?_
    rintro e w9 ⟨rfl, hb⟩
    have HBZ := Lib.hid (HE.out.step hb).bel
    clear hb
    go_wp2
    go_ret
    exact ⟨rfl, HBZ.out⟩

end Go.Proofs.YtddphlindcabpaaDoor
