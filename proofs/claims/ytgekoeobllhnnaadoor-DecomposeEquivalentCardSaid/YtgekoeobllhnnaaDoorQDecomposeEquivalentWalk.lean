/-
  The walk of DecomposeEquivalent (genDL.py).
-/
import Derived.Test.YtgekoeobllhnnaaDoorPkZ
import Derived.Test.YtgekoeobllhnnaaDoorQTblQ
import Derived.Test.YtgekoeobllhnnaaDoorQTblC
import Derived.Deep.RegionHeld3
set_option linter.unusedSimpArgs false
set_option linter.unusedVariables false
namespace Go.Proofs.YtgekoeobllhnnaaDoor
open Go.RowKit
set_option linter.unusedVariables false

theorem RowIn.take_inE {t : IntKind} {w : World} {p : Option Addr} {xs : List Int} (h : RowIn t w p xs) (k : Nat) : RowIn t w p (xs.take k) := by
  intro j hj
  have hj2 : j < k ∧ j < xs.length := by rw [List.length_take] at hj; omega
  obtain ⟨b, off, e, hc⟩ := h j hj2.2
  refine ⟨b, off, e, ?_⟩
  rw [hc]
  congr 2
  simp [List.getD, List.getElem?_take, hj2.1]
theorem RowIn.drop_inE {t : IntKind} {w : World} {b off : Nat} {xs : List Int} (h : RowIn t w (some ⟨b, off, none⟩) xs) (k : Nat) : RowIn t w (some ⟨b, off + k, none⟩) (xs.drop k) := by
  intro j hj
  have hj2 : k + j < xs.length := by rw [List.length_drop] at hj; omega
  obtain ⟨b2, off2, e, hc⟩ := h (k + j) hj2
  injection e with e
  injection e with e1 e2 _
  subst e1 e2
  refine ⟨_, _, rfl, ?_⟩
  rw [Nat.add_assoc, hc]
  congr 2
  simp [List.getD]

theorem Ints.capsE {w : World} {B n c : Nat} {p : Option Addr} {xs : List Int} (h : Ints w B (.slice p n c) xs) : n ≤ c := row_cap h rfl
theorem Ints.ptrE {w : World} {B n c : Nat} {p : Option Addr} {xs : List Int} (h : Ints w B (.slice p n c) xs) (hn : 0 < n) : ∃ g, p = some ⟨g, 0, none⟩ := by
  rcases h.2 with ⟨e, _⟩ | ⟨g, cap, cur, e, _⟩
  · injection e with _ e1 _; omega
  · injection e with e1 _ _; exact ⟨g, e1⟩

set_option maxRecDepth 100000 in
set_option maxHeartbeats 8000000 in
theorem decomposeEquivalent_walk (p0 : Option Addr) (cap0 : Nat) (zs0 : List Int) (p1 : Option Addr) (cap1 : Nat) (zs1 : List Int) (p2 : Option Addr) (cap2 : Nat) (zs2 : List Int) (p3 : Option Addr) (cap3 : Nat) (zs3 : List Int) (w : World) (hin0 : IntsIn w p0 zs0) (hl0 : zs0.length ≤ 17592186043904) (hin1 : IntsIn w p1 zs1) (hl1 : zs1.length ≤ 17592186043904) (hin2 : IntsIn w p2 zs2) (hl2 : zs2.length ≤ 17592186043904) (hin3 : IntsIn w p3 zs3) (hl3 : zs3.length ≤ 17592186043904) (hr : Rsv w) :
    Calls Tryd.prog 4 #[.slice p0 zs0.length cap0, .slice p1 zs1.length cap1, .slice p2 zs2.length cap2, .slice p3 zs3.length cap3] w (Gives (.bool true) w) := by
  have HI0 := Lib.hid hin0
  have HL0 := Lib.hid hl0
  have HI1 := Lib.hid hin1
  have HL1 := Lib.hid hl1
  have HI2 := Lib.hid hin2
  have HL2 := Lib.hid hl2
  have HI3 := Lib.hid hin3
  have HL3 := Lib.hid hl3
  have HR := Lib.hid hr
  clear hin0 hl0 hin1 hl1 hin2 hl2 hin3 hl3 hr
  go_enter Tryd.func4, Tryd.ntmps4
  go_wp2_with fail
  refine (tables_any p0 cap0 zs0 _ HI0.out HL0.out).mono ?_
  rintro e w1 ⟨⟨a0, a1, a2, a3, a4, a5, a6, a7, a8, a9, a10, a11⟩, T, rfl, htv, hm, hcap1, hb1⟩
  obtain ⟨pa0, na0, qa0, hsl0⟩ : Slc a0 := htv.cat.slc
  subst hsl0
  obtain ⟨pa1, na1, qa1, hsl1⟩ : Slc a1 := htv.cls.slc
  subst hsl1
  obtain ⟨pa2, na2, qa2, hsl2⟩ : Slc a2 := htv.joi.slc
  subst hsl2
  obtain ⟨pa3, na3, qa3, hsl3⟩ : Slc a3 := htv.bid.slc
  subst hsl3
  obtain ⟨pa4, na4, qa4, hsl4⟩ : Slc a4 := htv.scr.slc
  subst hsl4
  obtain ⟨pa5, na5, qa5, hsl5⟩ : Slc a5 := htv.sta.slc
  subst hsl5
  obtain ⟨pa6, na6, qa6, hsl6⟩ : Slc a6 := htv.ign.slc
  subst hsl6
  obtain ⟨pa7, na7, qa7, hsl7⟩ : Slc a7 := htv.ext.slc
  subst hsl7
  obtain ⟨pa8, na8, qa8, hsl8⟩ : Slc a8 := htv.map.slc
  subst hsl8
  obtain ⟨pa9, na9, qa9, hsl9⟩ : Slc a9 := htv.dec.slc
  subst hsl9
  obtain ⟨pa10, na10, qa10, hsl10⟩ : Slc a10 := htv.exc.slc
  subst hsl10
  obtain ⟨pa11, na11, qa11, hsl11⟩ : Slc a11 := htv.pro.slc
  subst hsl11
  have hba1 : Below w1.heap.size w1 (w1.alloc (.cells (tabCells ⟨.slice pa0 na0 qa0, .slice pa1 na1 qa1, .slice pa2 na2 qa2, .slice pa3 na3 qa3, .slice pa4 na4 qa4, .slice pa5 na5 qa5, .slice pa6 na6 qa6, .slice pa7 na7 qa7, .slice pa8 na8 qa8, .slice pa9 na9 qa9, .slice pa10 na10 qa10, .slice pa11 na11 qa11⟩) 26)) := (Below.refl _ _).alloc (Nat.le_refl _) _
  have HT1 : Hid (TabV (w1.alloc (.cells (tabCells ⟨.slice pa0 na0 qa0, .slice pa1 na1 qa1, .slice pa2 na2 qa2, .slice pa3 na3 qa3, .slice pa4 na4 qa4, .slice pa5 na5 qa5, .slice pa6 na6 qa6, .slice pa7 na7 qa7, .slice pa8 na8 qa8, .slice pa9 na9 qa9, .slice pa10 na10 qa10, .slice pa11 na11 qa11⟩) 26)) ⟨.slice pa0 na0 qa0, .slice pa1 na1 qa1, .slice pa2 na2 qa2, .slice pa3 na3 qa3, .slice pa4 na4 qa4, .slice pa5 na5 qa5, .slice pa6 na6 qa6, .slice pa7 na7 qa7, .slice pa8 na8 qa8, .slice pa9 na9 qa9, .slice pa10 na10 qa10, .slice pa11 na11 qa11⟩ T) := htv.below hba1
  have HX1 : Hid (BoxT (w1.alloc (.cells (tabCells ⟨.slice pa0 na0 qa0, .slice pa1 na1 qa1, .slice pa2 na2 qa2, .slice pa3 na3 qa3, .slice pa4 na4 qa4, .slice pa5 na5 qa5, .slice pa6 na6 qa6, .slice pa7 na7 qa7, .slice pa8 na8 qa8, .slice pa9 na9 qa9, .slice pa10 na10 qa10, .slice pa11 na11 qa11⟩) 26)) w1.heap.size ⟨.slice pa0 na0 qa0, .slice pa1 na1 qa1, .slice pa2 na2 qa2, .slice pa3 na3 qa3, .slice pa4 na4 qa4, .slice pa5 na5 qa5, .slice pa6 na6 qa6, .slice pa7 na7 qa7, .slice pa8 na8 qa8, .slice pa9 na9 qa9, .slice pa10 na10 qa10, .slice pa11 na11 qa11⟩) := BoxT.new _ _ _
  have HB1 : Hid (Below w.heap.size w (w1.alloc (.cells (tabCells ⟨.slice pa0 na0 qa0, .slice pa1 na1 qa1, .slice pa2 na2 qa2, .slice pa3 na3 qa3, .slice pa4 na4 qa4, .slice pa5 na5 qa5, .slice pa6 na6 qa6, .slice pa7 na7 qa7, .slice pa8 na8 qa8, .slice pa9 na9 qa9, .slice pa10 na10 qa10, .slice pa11 na11 qa11⟩) 26))) := hb1.trans (hba1.mono hb1.size)
  have HM := Lib.hid hm
  have HCAP : Hid (CapOf ⟨.slice pa0 na0 qa0, .slice pa1 na1 qa1, .slice pa2 na2 qa2, .slice pa3 na3 qa3, .slice pa4 na4 qa4, .slice pa5 na5 qa5, .slice pa6 na6 qa6, .slice pa7 na7 qa7, .slice pa8 na8 qa8, .slice pa9 na9 qa9, .slice pa10 na10 qa10, .slice pa11 na11 qa11⟩) := hcap1
  clear htv hm hcap1 hb1 hba1
  simp only [tabCells] at HT1 HX1 HB1
  go_wp2_with fail
  generalize (w1.alloc (.cells #[.slice pa0 na0 qa0, .slice pa1 na1 qa1, .slice pa2 na2 qa2, .slice pa3 na3 qa3, .slice pa4 na4 qa4, .slice pa5 na5 qa5, .slice pa6 na6 qa6, .slice pa7 na7 qa7, .slice pa8 na8 qa8, .slice pa9 na9 qa9, .slice pa10 na10 qa10, .slice pa11 na11 qa11] 26)) = W at HT1 HX1 HB1 ⊢
  generalize w1.heap.size = g at HX1 ⊢
  generalize (⟨.slice pa0 na0 qa0, .slice pa1 na1 qa1, .slice pa2 na2 qa2, .slice pa3 na3 qa3, .slice pa4 na4 qa4, .slice pa5 na5 qa5, .slice pa6 na6 qa6, .slice pa7 na7 qa7, .slice pa8 na8 qa8, .slice pa9 na9 qa9, .slice pa10 na10 qa10, .slice pa11 na11 qa11⟩ : TV) = x at HT1 HX1 HCAP
  have HE : Hid (LEnv w g x T W) := ⟨HT1.out, HX1.out, HB1.out⟩
  clear HT1 HX1 HB1
  refine (points_any p1 cap1 zs1 _ (HI1.out.below HE.out.bel) HL1.out).mono ?_
  rintro e wka ⟨xa, va, rfl, hna, hsa, hi, hb⟩
  obtain ⟨na, hNa⟩ : ∃ n, xa.length = n := ⟨_, rfl⟩
  obtain ⟨pa, ca, ea, hia⟩ := hi.inn
  rw [hNa] at hna ea
  subst ea
  replace HE := Lib.hid (HE.out.step hb)
  have hcapa := hi.capsE
  have HPA : Hid (0 < na → ∃ g, pa = some ⟨g, 0, none⟩) := fun h => hi.ptrE h
  have HA := Lib.hid hia
  have HSA := Lib.hid hsa
  have HNA := Lib.hid hNa
  clear hi hb hia hsa hNa
  go_wp2_with fail
  refine (points_any p2 cap2 zs2 _ (HI2.out.below HE.out.bel) HL2.out).mono ?_
  rintro e wkb ⟨xb, vb, rfl, hnb, hsb, hi, hb⟩
  obtain ⟨nb, hNb⟩ : ∃ n, xb.length = n := ⟨_, rfl⟩
  obtain ⟨pb, cb, eb, hib⟩ := hi.inn
  rw [hNb] at hnb eb
  subst eb
  replace HE := Lib.hid (HE.out.step hb)
  replace HA := Lib.hid (HA.out.below hb)
  have hcapb := hi.capsE
  have HPB : Hid (0 < nb → ∃ g, pb = some ⟨g, 0, none⟩) := fun h => hi.ptrE h
  have HB := Lib.hid hib
  have HSB := Lib.hid hsb
  have HNB := Lib.hid hNb
  clear hi hb hib hsb hNb
  go_wp2_with fail
  refine (points_any p3 cap3 zs3 _ (HI3.out.below HE.out.bel) HL3.out).mono ?_
  rintro e wkc ⟨xc, vc, rfl, hnc, hsc, hi, hb⟩
  obtain ⟨nc, hNc⟩ : ∃ n, xc.length = n := ⟨_, rfl⟩
  obtain ⟨pc, cc, ec, hic⟩ := hi.inn
  rw [hNc] at hnc ec
  subst ec
  replace HE := Lib.hid (HE.out.step hb)
  replace HA := Lib.hid (HA.out.below hb)
  replace HB := Lib.hid (HB.out.below hb)
  have HC := Lib.hid hic
  have HSC := Lib.hid hsc
  have HNC := Lib.hid hNc
  clear hi hb hic hsc hNc
  by_cases h1 : 1 < nb
  · have d1 : decide ((1 : Int) < (nb : Int)) = true := decide_eq_true (by omega)
    by_cases h2 : 1 < na
    · have d2 : decide ((1 : Int) < (na : Int)) = true := decide_eq_true (by omega)
      obtain ⟨ga, rfl⟩ := HPA.out (by omega)
      obtain ⟨gb, rfl⟩ := HPB.out (by omega)
      obtain ⟨V, hV⟩ : ∃ V, xa.take 1 ++ xb.drop 1 = V := ⟨_, rfl⟩
      have hVs : V.all scaB = true := by
        rw [← hV, List.all_append, Bool.and_eq_true, List.all_eq_true, List.all_eq_true]
        exact ⟨fun y hy => List.all_eq_true.1 HSA.out y (List.mem_of_mem_take hy), fun y hy => List.all_eq_true.1 HSB.out y (List.mem_of_mem_drop hy)⟩
      obtain ⟨nv, hnv⟩ : ∃ n, V.length = n := ⟨_, rfl⟩
      have hnvb : nv ≤ 20 := by
        rw [← hnv, ← hV]
        simp only [List.length_append, List.length_take, List.length_drop]
        rw [HNA.out, HNB.out]
        omega
      have HSV := Lib.hid hVs
      have HNV := Lib.hid hnv
      have hl1 : (xa.take 1).length = 1 := by rw [List.length_take, HNA.out]; omega
      have hl3 : (xb.drop 1).length = nb - 1 := by rw [List.length_drop, HNB.out]
      have HT1 : Hid (IntsIn wkc (some ⟨ga, 0, none⟩) (xa.take 1)) := HA.out.take_inE 1
      obtain ⟨P3, hP3⟩ : ∃ P3, (if cb = 1 then some (⟨gb, 0, none⟩ : Addr) else some ⟨gb, 1, none⟩) = P3 := ⟨_, rfl⟩
      have HT3 : Hid (IntsIn wkc P3 (xb.drop 1)) := by
        unfold Hid
        rw [← hP3]
        split
        · intro i hi
          rw [List.length_drop, HNB.out] at hi
          omega
        · have := HB.out.drop_inE 1
          rwa [Nat.zero_add] at this
      have HL1X := Lib.hid hl1
      have HL3X := Lib.hid hl3
      have HUV : Hid (([] : List Int) ++ xa.take 1 ++ xb.drop 1 = V) := by unfold Hid; rw [← hV]; simp
      have HLA : Hid (([] : List Int).length + (xa.take 1).length ≤ 17592186043904) := by unfold Hid; rw [HL1X.out]; simp
      have HLB : Hid ((([] : List Int) ++ xa.take 1).length + (xb.drop 1).length ≤ 17592186043904) := by unfold Hid; rw [List.nil_append, HL1X.out, HL3X.out]; omega
      have hj1 : (1 : Int) ≤ (nb : Int) := by omega
      have hj2 : 1 ≤ nb := by omega
      have hj3 : (1 : Int) ≤ (ca : Int) := by omega
      have hj4 : 1 ≤ ca := by omega
      have hj5 : (nb : Int) ≤ (cb : Int) := by omega
      have hd0 := drew_one wkc
      have HD0 := Lib.hid hd0
      clear hd0 hl1 hl3 hV hVs hnv
      go_upto_region 4 with (fail)
      go_cut [11] (fun a wx => ∃ pV cV, a = .slice pV nv cV ∧ Hid (LEnv w g x T wx) ∧ Hid (IntsIn wx (some ⟨ga, 0, none⟩) xa) ∧ Hid (IntsIn wx pc xc) ∧ Hid (IntsIn wx pV V))
      case first =>
        go_region_held3 (fun _ => True)
          (trivial)
          (first
            | (refine step_app_ints (by rfl) (.const (.slice none 0 0)) (.tmp 40) (by rfl) wkc.heap.size (.slice none 0 0) [] (by rfl) (Ints.nil _ _) (some ⟨ga, 0, none⟩) 1 _ (xa.take 1) HL1X.out (by rfl) (HT1.out.below HD0.out) HLA.out (Nat.le_refl _) ?_; intro v6 w6 ho6 hg6; have hb6 : Below wkc.heap.size wkc w6 := below_appI HD0.out (Ints.nil wkc.drew wkc.heap.size) (Nat.le_refl _) hg6)
            | (refine step_app_ints (by rfl) (.tmp 41) (.tmp 43) (by rfl) wkc.heap.size v6 ([] ++ xa.take 1) (by rfl) ho6 P3 (nb - 1) _ (xb.drop 1) HL3X.out (by rfl) (HT3.out.below hb6) HLB.out hb6.size ?_; intro v8 w8 ho8 hg8; have hb8 : Below wkc.heap.size wkc w8 := below_appI hb6 ho6 (Nat.le_refl _) hg8; rw [HUV.out] at ho8; obtain ⟨p8, c8, e8, hi8⟩ := ho8.inn; rw [HNV.out] at e8; subst e8)
            | fail)
        all_goals
          have hf := HE.out.step hb8
          have hfa := HA.out.below hb8
          have hfc := HC.out.below hb8
          try (go_wp2_with fail)
          go_meet
          exact ⟨p8, c8, rfl, hf, hfa, hfc, hi8⟩
      case rest =>
        obtain ⟨pV, cV, rfl, HE, HA, HC, HV⟩ := hcut
        generalize wc = WB at HE HA HC HV ⊢
        clear HB HT1 HT3 HL1X HL3X HUV HLA HLB HD0 hj1 hj2 hj3 hj4 hj5 hP3 HSB HNB d1 d2
        have HEA := Lib.hid (nfd_small (T := T) HM.out.check HSA.out (by rw [HNA.out]; omega))
        have HEY := Lib.hid (nfd_small (T := T) HM.out.check HSV.out (by rw [HNV.out]; omega))
        have HEC := Lib.hid (nfd_small (T := T) HM.out.check HSC.out (by rw [HNC.out]; omega))
        obtain ⟨La, hLa⟩ : ∃ L, Hid (nfdL T xa = L) := ⟨_, rfl⟩
        obtain ⟨Lb, hLb⟩ : ∃ L, Hid (nfdL T V = L) := ⟨_, rfl⟩
        obtain ⟨Lc, hLc⟩ : ∃ L, Hid (nfdL T xc = L) := ⟨_, rfl⟩
        obtain ⟨B1, hB1⟩ : ∃ B, (La == Lb) = B := ⟨_, rfl⟩
        obtain ⟨B3, hB3⟩ : ∃ B, (Lb == Lc) = B := ⟨_, rfl⟩
        obtain ⟨B4, hB4⟩ : ∃ B, (La == Lc) = B := ⟨_, rfl⟩
        have q1 : Hid (eqvE T xa V = 0) := (eqv_both HEA.out HEY.out).1
        have r1' : Hid (eqvB T xa V = B1) := by unfold Hid; rw [(eqv_both HEA.out HEY.out).2, hLa.out, hLb.out]; exact hB1
        have q2 : Hid (eqvE T V xa = 0) := (eqv_both HEY.out HEA.out).1
        have r2' : Hid (eqvB T V xa = B1) := by unfold Hid; rw [(eqv_both HEY.out HEA.out).2, hLa.out, hLb.out, ← hB1, Bool.eq_iff_iff, beq_iff_eq, beq_iff_eq]; exact eq_comm
        have q3 : Hid (eqvE T V xc = 0) := (eqv_both HEY.out HEC.out).1
        have r3' : Hid (eqvB T V xc = B3) := by unfold Hid; rw [(eqv_both HEY.out HEC.out).2, hLb.out, hLc.out]; exact hB3
        have q4 : Hid (eqvE T xa xc = 0) := (eqv_both HEA.out HEC.out).1
        have r4' : Hid (eqvB T xa xc = B4) := by unfold Hid; rw [(eqv_both HEA.out HEC.out).2, hLa.out, hLc.out]; exact hB4
        have q5 : Hid (eqvE T xa xa = 0) := (eqv_both HEA.out HEA.out).1
        have r5' : Hid (eqvB T xa xa = true) := by unfold Hid; rw [(eqv_both HEA.out HEA.out).2]; simp
        have HTR : Hid (B1 = true → B3 = true → B4 = true) := by
          intro h1 h3
          rw [← hB1] at h1
          rw [← hB3] at h3
          rw [← hB4]
          simp only [beq_iff_eq] at h1 h3 ⊢
          rw [h1, h3]
        clear hB1 hB3 hB4
        have lA : xa.length ≤ 17592186043904 := by rw [HNA.out]; omega
        have lY : V.length ≤ 17592186043904 := by rw [HNV.out]; omega
        have lC : xc.length ≤ 17592186043904 := by rw [HNC.out]; omega
        have o1 := fun W (h1 : TabV W x T) h2 h3 h4 => equiv_at x T (some ⟨ga, 0, none⟩) ca xa pV cV V 0 B1 W h1 h2 h3 lA h4 lY q1 r1'
        have o2 := fun W (h1 : TabV W x T) h2 h3 h4 => equiv_at x T pV cV V (some ⟨ga, 0, none⟩) ca xa 0 B1 W h1 h2 h3 lY h4 lA q2 r2'
        have o3 := fun W (h1 : TabV W x T) h2 h3 h4 => equiv_at x T pV cV V pc cc xc 0 B3 W h1 h2 h3 lY h4 lC q3 r3'
        have o4 := fun W (h1 : TabV W x T) h2 h3 h4 => equiv_at x T (some ⟨ga, 0, none⟩) ca xa pc cc xc 0 B4 W h1 h2 h3 lA h4 lC q4 r4'
        have o5 := fun W (h1 : TabV W x T) h2 h3 h4 => equiv_at x T (some ⟨ga, 0, none⟩) ca xa (some ⟨ga, 0, none⟩) ca xa 0 true W h1 h2 h3 lA h4 lA q5 r5'
        rw [HNA.out] at o1 o2 o4 o5
        rw [HNV.out] at o1 o2 o3
        rw [HNC.out] at o3 o4
        have O1 := Lib.hid o1
        have O2 := Lib.hid o2
        have O3 := Lib.hid o3
        have O4 := Lib.hid o4
        have O5 := Lib.hid o5
        clear o1 o2 o3 o4 o5 lA lY lC q1 q2 q3 q4 q5 r1' r2' r3' r4' r5' HEA HEY HEC
        obtain ⟨⟨k0, k1, k2, k3, k4, k5⟩, ⟨k6, k7, k8, k9, k10, k11⟩⟩ := HE.out.box.load
        go_wp2_with fail
        refine (O1.out _ HE.out.tab (HR.out.below HE.out.bel) HA.out HV.out).mono ?_
        rintro e wq1 ⟨rfl, hb⟩
        replace HE := Lib.hid (HE.out.step hb)
        replace HA := Lib.hid (HA.out.below hb)
        replace HV := Lib.hid (HV.out.below hb)
        replace HC := Lib.hid (HC.out.below hb)
        clear hb k0 k1 k2 k3 k4 k5 k6 k7 k8 k9 k10 k11
        obtain ⟨⟨k0, k1, k2, k3, k4, k5⟩, ⟨k6, k7, k8, k9, k10, k11⟩⟩ := HE.out.box.load
        go_wp2_with fail
        refine (O2.out _ HE.out.tab (HR.out.below HE.out.bel) HV.out HA.out).mono ?_
        rintro e wq2 ⟨rfl, hb⟩
        replace HE := Lib.hid (HE.out.step hb)
        replace HA := Lib.hid (HA.out.below hb)
        replace HV := Lib.hid (HV.out.below hb)
        replace HC := Lib.hid (HC.out.below hb)
        clear hb k0 k1 k2 k3 k4 k5 k6 k7 k8 k9 k10 k11
        obtain ⟨⟨k0, k1, k2, k3, k4, k5⟩, ⟨k6, k7, k8, k9, k10, k11⟩⟩ := HE.out.box.load
        go_wp2_with fail
        refine (O3.out _ HE.out.tab (HR.out.below HE.out.bel) HV.out HC.out).mono ?_
        rintro e wq3 ⟨rfl, hb⟩
        replace HE := Lib.hid (HE.out.step hb)
        replace HA := Lib.hid (HA.out.below hb)
        replace HV := Lib.hid (HV.out.below hb)
        replace HC := Lib.hid (HC.out.below hb)
        clear hb k0 k1 k2 k3 k4 k5 k6 k7 k8 k9 k10 k11
        obtain ⟨⟨k0, k1, k2, k3, k4, k5⟩, ⟨k6, k7, k8, k9, k10, k11⟩⟩ := HE.out.box.load
        go_wp2_with fail
        refine (O4.out _ HE.out.tab (HR.out.below HE.out.bel) HA.out HC.out).mono ?_
        rintro e wq4 ⟨rfl, hb⟩
        replace HE := Lib.hid (HE.out.step hb)
        replace HA := Lib.hid (HA.out.below hb)
        replace HV := Lib.hid (HV.out.below hb)
        replace HC := Lib.hid (HC.out.below hb)
        clear hb k0 k1 k2 k3 k4 k5 k6 k7 k8 k9 k10 k11
        obtain ⟨⟨k0, k1, k2, k3, k4, k5⟩, ⟨k6, k7, k8, k9, k10, k11⟩⟩ := HE.out.box.load
        go_wp2_with fail
        refine (O5.out _ HE.out.tab (HR.out.below HE.out.bel) HA.out HA.out).mono ?_
        rintro e wq5 ⟨rfl, hb⟩
        replace HE := Lib.hid (HE.out.step hb)
        replace HA := Lib.hid (HA.out.below hb)
        replace HV := Lib.hid (HV.out.below hb)
        replace HC := Lib.hid (HC.out.below hb)
        clear hb k0 k1 k2 k3 k4 k5 k6 k7 k8 k9 k10 k11
        have t1 : (B1 == B1) = true := by simp
        cases B1
        case false =>
          go_wp2_with fail
          refine (awake7_any _ (HR.out.below HE.out.bel)).mono ?_
          rintro e wz ⟨rfl, hb⟩
          have HZ := Lib.hid (HE.out.step hb).bel
          clear hb
          go_wp2
          go_ret
          exact ⟨rfl, HZ.out⟩
        case true =>
          cases B3
          case false =>
            go_wp2_with fail
            refine (awake7_any _ (HR.out.below HE.out.bel)).mono ?_
            rintro e wz ⟨rfl, hb⟩
            have HZ := Lib.hid (HE.out.step hb).bel
            clear hb
            go_wp2
            go_ret
            exact ⟨rfl, HZ.out⟩
          case true =>
            obtain rfl : B4 = true := HTR.out rfl rfl
            go_wp2_with fail
            refine (awake7_any _ (HR.out.below HE.out.bel)).mono ?_
            rintro e wz ⟨rfl, hb⟩
            have HZ := Lib.hid (HE.out.step hb).bel
            clear hb
            go_wp2
            go_ret
            exact ⟨rfl, HZ.out⟩
    · have d2 : decide ((1 : Int) < (na : Int)) = false := decide_eq_false (by omega)
      have HEA := Lib.hid (nfd_small (T := T) HM.out.check HSA.out (by rw [HNA.out]; omega))
      have HEY := Lib.hid (nfd_small (T := T) HM.out.check HSB.out (by rw [HNB.out]; omega))
      have HEC := Lib.hid (nfd_small (T := T) HM.out.check HSC.out (by rw [HNC.out]; omega))
      obtain ⟨La, hLa⟩ : ∃ L, Hid (nfdL T xa = L) := ⟨_, rfl⟩
      obtain ⟨Lb, hLb⟩ : ∃ L, Hid (nfdL T xb = L) := ⟨_, rfl⟩
      obtain ⟨Lc, hLc⟩ : ∃ L, Hid (nfdL T xc = L) := ⟨_, rfl⟩
      obtain ⟨B1, hB1⟩ : ∃ B, (La == Lb) = B := ⟨_, rfl⟩
      obtain ⟨B3, hB3⟩ : ∃ B, (Lb == Lc) = B := ⟨_, rfl⟩
      obtain ⟨B4, hB4⟩ : ∃ B, (La == Lc) = B := ⟨_, rfl⟩
      have q1 : Hid (eqvE T xa xb = 0) := (eqv_both HEA.out HEY.out).1
      have r1' : Hid (eqvB T xa xb = B1) := by unfold Hid; rw [(eqv_both HEA.out HEY.out).2, hLa.out, hLb.out]; exact hB1
      have q2 : Hid (eqvE T xb xa = 0) := (eqv_both HEY.out HEA.out).1
      have r2' : Hid (eqvB T xb xa = B1) := by unfold Hid; rw [(eqv_both HEY.out HEA.out).2, hLa.out, hLb.out, ← hB1, Bool.eq_iff_iff, beq_iff_eq, beq_iff_eq]; exact eq_comm
      have q3 : Hid (eqvE T xb xc = 0) := (eqv_both HEY.out HEC.out).1
      have r3' : Hid (eqvB T xb xc = B3) := by unfold Hid; rw [(eqv_both HEY.out HEC.out).2, hLb.out, hLc.out]; exact hB3
      have q4 : Hid (eqvE T xa xc = 0) := (eqv_both HEA.out HEC.out).1
      have r4' : Hid (eqvB T xa xc = B4) := by unfold Hid; rw [(eqv_both HEA.out HEC.out).2, hLa.out, hLc.out]; exact hB4
      have q5 : Hid (eqvE T xa xa = 0) := (eqv_both HEA.out HEA.out).1
      have r5' : Hid (eqvB T xa xa = true) := by unfold Hid; rw [(eqv_both HEA.out HEA.out).2]; simp
      have HTR : Hid (B1 = true → B3 = true → B4 = true) := by
        intro h1 h3
        rw [← hB1] at h1
        rw [← hB3] at h3
        rw [← hB4]
        simp only [beq_iff_eq] at h1 h3 ⊢
        rw [h1, h3]
      clear hB1 hB3 hB4
      have lA : xa.length ≤ 17592186043904 := by rw [HNA.out]; omega
      have lY : xb.length ≤ 17592186043904 := by rw [HNB.out]; omega
      have lC : xc.length ≤ 17592186043904 := by rw [HNC.out]; omega
      have o1 := fun W (h1 : TabV W x T) h2 h3 h4 => equiv_at x T pa ca xa pb cb xb 0 B1 W h1 h2 h3 lA h4 lY q1 r1'
      have o2 := fun W (h1 : TabV W x T) h2 h3 h4 => equiv_at x T pb cb xb pa ca xa 0 B1 W h1 h2 h3 lY h4 lA q2 r2'
      have o3 := fun W (h1 : TabV W x T) h2 h3 h4 => equiv_at x T pb cb xb pc cc xc 0 B3 W h1 h2 h3 lY h4 lC q3 r3'
      have o4 := fun W (h1 : TabV W x T) h2 h3 h4 => equiv_at x T pa ca xa pc cc xc 0 B4 W h1 h2 h3 lA h4 lC q4 r4'
      have o5 := fun W (h1 : TabV W x T) h2 h3 h4 => equiv_at x T pa ca xa pa ca xa 0 true W h1 h2 h3 lA h4 lA q5 r5'
      rw [HNA.out] at o1 o2 o4 o5
      rw [HNB.out] at o1 o2 o3
      rw [HNC.out] at o3 o4
      have O1 := Lib.hid o1
      have O2 := Lib.hid o2
      have O3 := Lib.hid o3
      have O4 := Lib.hid o4
      have O5 := Lib.hid o5
      clear o1 o2 o3 o4 o5 lA lY lC q1 q2 q3 q4 q5 r1' r2' r3' r4' r5' HEA HEY HEC
      obtain ⟨⟨k0, k1, k2, k3, k4, k5⟩, ⟨k6, k7, k8, k9, k10, k11⟩⟩ := HE.out.box.load
      go_wp2_with fail
      refine (O1.out _ HE.out.tab (HR.out.below HE.out.bel) HA.out HB.out).mono ?_
      rintro e wq1 ⟨rfl, hb⟩
      replace HE := Lib.hid (HE.out.step hb)
      replace HA := Lib.hid (HA.out.below hb)
      replace HB := Lib.hid (HB.out.below hb)
      replace HC := Lib.hid (HC.out.below hb)
      clear hb k0 k1 k2 k3 k4 k5 k6 k7 k8 k9 k10 k11
      obtain ⟨⟨k0, k1, k2, k3, k4, k5⟩, ⟨k6, k7, k8, k9, k10, k11⟩⟩ := HE.out.box.load
      go_wp2_with fail
      refine (O2.out _ HE.out.tab (HR.out.below HE.out.bel) HB.out HA.out).mono ?_
      rintro e wq2 ⟨rfl, hb⟩
      replace HE := Lib.hid (HE.out.step hb)
      replace HA := Lib.hid (HA.out.below hb)
      replace HB := Lib.hid (HB.out.below hb)
      replace HC := Lib.hid (HC.out.below hb)
      clear hb k0 k1 k2 k3 k4 k5 k6 k7 k8 k9 k10 k11
      obtain ⟨⟨k0, k1, k2, k3, k4, k5⟩, ⟨k6, k7, k8, k9, k10, k11⟩⟩ := HE.out.box.load
      go_wp2_with fail
      refine (O3.out _ HE.out.tab (HR.out.below HE.out.bel) HB.out HC.out).mono ?_
      rintro e wq3 ⟨rfl, hb⟩
      replace HE := Lib.hid (HE.out.step hb)
      replace HA := Lib.hid (HA.out.below hb)
      replace HB := Lib.hid (HB.out.below hb)
      replace HC := Lib.hid (HC.out.below hb)
      clear hb k0 k1 k2 k3 k4 k5 k6 k7 k8 k9 k10 k11
      obtain ⟨⟨k0, k1, k2, k3, k4, k5⟩, ⟨k6, k7, k8, k9, k10, k11⟩⟩ := HE.out.box.load
      go_wp2_with fail
      refine (O4.out _ HE.out.tab (HR.out.below HE.out.bel) HA.out HC.out).mono ?_
      rintro e wq4 ⟨rfl, hb⟩
      replace HE := Lib.hid (HE.out.step hb)
      replace HA := Lib.hid (HA.out.below hb)
      replace HB := Lib.hid (HB.out.below hb)
      replace HC := Lib.hid (HC.out.below hb)
      clear hb k0 k1 k2 k3 k4 k5 k6 k7 k8 k9 k10 k11
      obtain ⟨⟨k0, k1, k2, k3, k4, k5⟩, ⟨k6, k7, k8, k9, k10, k11⟩⟩ := HE.out.box.load
      go_wp2_with fail
      refine (O5.out _ HE.out.tab (HR.out.below HE.out.bel) HA.out HA.out).mono ?_
      rintro e wq5 ⟨rfl, hb⟩
      replace HE := Lib.hid (HE.out.step hb)
      replace HA := Lib.hid (HA.out.below hb)
      replace HB := Lib.hid (HB.out.below hb)
      replace HC := Lib.hid (HC.out.below hb)
      clear hb k0 k1 k2 k3 k4 k5 k6 k7 k8 k9 k10 k11
      have t1 : (B1 == B1) = true := by simp
      cases B1
      case false =>
        go_wp2_with fail
        refine (awake7_any _ (HR.out.below HE.out.bel)).mono ?_
        rintro e wz ⟨rfl, hb⟩
        have HZ := Lib.hid (HE.out.step hb).bel
        clear hb
        go_wp2
        go_ret
        exact ⟨rfl, HZ.out⟩
      case true =>
        cases B3
        case false =>
          go_wp2_with fail
          refine (awake7_any _ (HR.out.below HE.out.bel)).mono ?_
          rintro e wz ⟨rfl, hb⟩
          have HZ := Lib.hid (HE.out.step hb).bel
          clear hb
          go_wp2
          go_ret
          exact ⟨rfl, HZ.out⟩
        case true =>
          obtain rfl : B4 = true := HTR.out rfl rfl
          go_wp2_with fail
          refine (awake7_any _ (HR.out.below HE.out.bel)).mono ?_
          rintro e wz ⟨rfl, hb⟩
          have HZ := Lib.hid (HE.out.step hb).bel
          clear hb
          go_wp2
          go_ret
          exact ⟨rfl, HZ.out⟩
  · have d1 : decide ((1 : Int) < (nb : Int)) = false := decide_eq_false (by omega)
    have HEA := Lib.hid (nfd_small (T := T) HM.out.check HSA.out (by rw [HNA.out]; omega))
    have HEY := Lib.hid (nfd_small (T := T) HM.out.check HSB.out (by rw [HNB.out]; omega))
    have HEC := Lib.hid (nfd_small (T := T) HM.out.check HSC.out (by rw [HNC.out]; omega))
    obtain ⟨La, hLa⟩ : ∃ L, Hid (nfdL T xa = L) := ⟨_, rfl⟩
    obtain ⟨Lb, hLb⟩ : ∃ L, Hid (nfdL T xb = L) := ⟨_, rfl⟩
    obtain ⟨Lc, hLc⟩ : ∃ L, Hid (nfdL T xc = L) := ⟨_, rfl⟩
    obtain ⟨B1, hB1⟩ : ∃ B, (La == Lb) = B := ⟨_, rfl⟩
    obtain ⟨B3, hB3⟩ : ∃ B, (Lb == Lc) = B := ⟨_, rfl⟩
    obtain ⟨B4, hB4⟩ : ∃ B, (La == Lc) = B := ⟨_, rfl⟩
    have q1 : Hid (eqvE T xa xb = 0) := (eqv_both HEA.out HEY.out).1
    have r1' : Hid (eqvB T xa xb = B1) := by unfold Hid; rw [(eqv_both HEA.out HEY.out).2, hLa.out, hLb.out]; exact hB1
    have q2 : Hid (eqvE T xb xa = 0) := (eqv_both HEY.out HEA.out).1
    have r2' : Hid (eqvB T xb xa = B1) := by unfold Hid; rw [(eqv_both HEY.out HEA.out).2, hLa.out, hLb.out, ← hB1, Bool.eq_iff_iff, beq_iff_eq, beq_iff_eq]; exact eq_comm
    have q3 : Hid (eqvE T xb xc = 0) := (eqv_both HEY.out HEC.out).1
    have r3' : Hid (eqvB T xb xc = B3) := by unfold Hid; rw [(eqv_both HEY.out HEC.out).2, hLb.out, hLc.out]; exact hB3
    have q4 : Hid (eqvE T xa xc = 0) := (eqv_both HEA.out HEC.out).1
    have r4' : Hid (eqvB T xa xc = B4) := by unfold Hid; rw [(eqv_both HEA.out HEC.out).2, hLa.out, hLc.out]; exact hB4
    have q5 : Hid (eqvE T xa xa = 0) := (eqv_both HEA.out HEA.out).1
    have r5' : Hid (eqvB T xa xa = true) := by unfold Hid; rw [(eqv_both HEA.out HEA.out).2]; simp
    have HTR : Hid (B1 = true → B3 = true → B4 = true) := by
      intro h1 h3
      rw [← hB1] at h1
      rw [← hB3] at h3
      rw [← hB4]
      simp only [beq_iff_eq] at h1 h3 ⊢
      rw [h1, h3]
    clear hB1 hB3 hB4
    have lA : xa.length ≤ 17592186043904 := by rw [HNA.out]; omega
    have lY : xb.length ≤ 17592186043904 := by rw [HNB.out]; omega
    have lC : xc.length ≤ 17592186043904 := by rw [HNC.out]; omega
    have o1 := fun W (h1 : TabV W x T) h2 h3 h4 => equiv_at x T pa ca xa pb cb xb 0 B1 W h1 h2 h3 lA h4 lY q1 r1'
    have o2 := fun W (h1 : TabV W x T) h2 h3 h4 => equiv_at x T pb cb xb pa ca xa 0 B1 W h1 h2 h3 lY h4 lA q2 r2'
    have o3 := fun W (h1 : TabV W x T) h2 h3 h4 => equiv_at x T pb cb xb pc cc xc 0 B3 W h1 h2 h3 lY h4 lC q3 r3'
    have o4 := fun W (h1 : TabV W x T) h2 h3 h4 => equiv_at x T pa ca xa pc cc xc 0 B4 W h1 h2 h3 lA h4 lC q4 r4'
    have o5 := fun W (h1 : TabV W x T) h2 h3 h4 => equiv_at x T pa ca xa pa ca xa 0 true W h1 h2 h3 lA h4 lA q5 r5'
    rw [HNA.out] at o1 o2 o4 o5
    rw [HNB.out] at o1 o2 o3
    rw [HNC.out] at o3 o4
    have O1 := Lib.hid o1
    have O2 := Lib.hid o2
    have O3 := Lib.hid o3
    have O4 := Lib.hid o4
    have O5 := Lib.hid o5
    clear o1 o2 o3 o4 o5 lA lY lC q1 q2 q3 q4 q5 r1' r2' r3' r4' r5' HEA HEY HEC
    obtain ⟨⟨k0, k1, k2, k3, k4, k5⟩, ⟨k6, k7, k8, k9, k10, k11⟩⟩ := HE.out.box.load
    go_wp2_with fail
    refine (O1.out _ HE.out.tab (HR.out.below HE.out.bel) HA.out HB.out).mono ?_
    rintro e wq1 ⟨rfl, hb⟩
    replace HE := Lib.hid (HE.out.step hb)
    replace HA := Lib.hid (HA.out.below hb)
    replace HB := Lib.hid (HB.out.below hb)
    replace HC := Lib.hid (HC.out.below hb)
    clear hb k0 k1 k2 k3 k4 k5 k6 k7 k8 k9 k10 k11
    obtain ⟨⟨k0, k1, k2, k3, k4, k5⟩, ⟨k6, k7, k8, k9, k10, k11⟩⟩ := HE.out.box.load
    go_wp2_with fail
    refine (O2.out _ HE.out.tab (HR.out.below HE.out.bel) HB.out HA.out).mono ?_
    rintro e wq2 ⟨rfl, hb⟩
    replace HE := Lib.hid (HE.out.step hb)
    replace HA := Lib.hid (HA.out.below hb)
    replace HB := Lib.hid (HB.out.below hb)
    replace HC := Lib.hid (HC.out.below hb)
    clear hb k0 k1 k2 k3 k4 k5 k6 k7 k8 k9 k10 k11
    obtain ⟨⟨k0, k1, k2, k3, k4, k5⟩, ⟨k6, k7, k8, k9, k10, k11⟩⟩ := HE.out.box.load
    go_wp2_with fail
    refine (O3.out _ HE.out.tab (HR.out.below HE.out.bel) HB.out HC.out).mono ?_
    rintro e wq3 ⟨rfl, hb⟩
    replace HE := Lib.hid (HE.out.step hb)
    replace HA := Lib.hid (HA.out.below hb)
    replace HB := Lib.hid (HB.out.below hb)
    replace HC := Lib.hid (HC.out.below hb)
    clear hb k0 k1 k2 k3 k4 k5 k6 k7 k8 k9 k10 k11
    obtain ⟨⟨k0, k1, k2, k3, k4, k5⟩, ⟨k6, k7, k8, k9, k10, k11⟩⟩ := HE.out.box.load
    go_wp2_with fail
    refine (O4.out _ HE.out.tab (HR.out.below HE.out.bel) HA.out HC.out).mono ?_
    rintro e wq4 ⟨rfl, hb⟩
    replace HE := Lib.hid (HE.out.step hb)
    replace HA := Lib.hid (HA.out.below hb)
    replace HB := Lib.hid (HB.out.below hb)
    replace HC := Lib.hid (HC.out.below hb)
    clear hb k0 k1 k2 k3 k4 k5 k6 k7 k8 k9 k10 k11
    obtain ⟨⟨k0, k1, k2, k3, k4, k5⟩, ⟨k6, k7, k8, k9, k10, k11⟩⟩ := HE.out.box.load
    go_wp2_with fail
    refine (O5.out _ HE.out.tab (HR.out.below HE.out.bel) HA.out HA.out).mono ?_
    rintro e wq5 ⟨rfl, hb⟩
    replace HE := Lib.hid (HE.out.step hb)
    replace HA := Lib.hid (HA.out.below hb)
    replace HB := Lib.hid (HB.out.below hb)
    replace HC := Lib.hid (HC.out.below hb)
    clear hb k0 k1 k2 k3 k4 k5 k6 k7 k8 k9 k10 k11
    have t1 : (B1 == B1) = true := by simp
    cases B1
    case false =>
      go_wp2_with fail
      refine (awake7_any _ (HR.out.below HE.out.bel)).mono ?_
      rintro e wz ⟨rfl, hb⟩
      have HZ := Lib.hid (HE.out.step hb).bel
      clear hb
      go_wp2
      go_ret
      exact ⟨rfl, HZ.out⟩
    case true =>
      cases B3
      case false =>
        go_wp2_with fail
        refine (awake7_any _ (HR.out.below HE.out.bel)).mono ?_
        rintro e wz ⟨rfl, hb⟩
        have HZ := Lib.hid (HE.out.step hb).bel
        clear hb
        go_wp2
        go_ret
        exact ⟨rfl, HZ.out⟩
      case true =>
        obtain rfl : B4 = true := HTR.out rfl rfl
        go_wp2_with fail
        refine (awake7_any _ (HR.out.below HE.out.bel)).mono ?_
        rintro e wz ⟨rfl, hb⟩
        have HZ := Lib.hid (HE.out.step hb).bel
        clear hb
        go_wp2
        go_ret
        exact ⟨rfl, HZ.out⟩

end Go.Proofs.YtgekoeobllhnnaaDoor
