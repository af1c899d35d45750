/-
  The walk of DecomposeExpanded (genDL.py).
-/
import Derived.Test.YtgekoeobllhnnaaDoorPkZ
import Derived.Test.YtgekoeobllhnnaaDoorQTblQ
import Derived.Test.YtgekoeobllhnnaaDoorQTblC
import Derived.Deep.RegionHeld3
set_option linter.unusedSimpArgs false
set_option linter.unusedVariables false
namespace Go.Proofs.YtgekoeobllhnnaaDoor
open Go.RowKit
set_option linter.unusedVariables false

theorem RowIn.take_in {t : IntKind} {w : World} {p : Option Addr} {xs : List Int} (h : RowIn t w p xs) (k : Nat) : RowIn t w p (xs.take k) := by
  intro j hj
  have hj2 : j < k ∧ j < xs.length := by rw [List.length_take] at hj; omega
  obtain ⟨b, off, e, hc⟩ := h j hj2.2
  refine ⟨b, off, e, ?_⟩
  rw [hc]
  congr 2
  simp [List.getD, List.getElem?_take, hj2.1]
theorem RowIn.drop_in {t : IntKind} {w : World} {b off : Nat} {xs : List Int} (h : RowIn t w (some ⟨b, off, none⟩) xs) (k : Nat) : RowIn t w (some ⟨b, off + k, none⟩) (xs.drop k) := by
  intro j hj
  have hj2 : k + j < xs.length := by rw [List.length_drop] at hj; omega
  obtain ⟨b2, off2, e, hc⟩ := h (k + j) hj2
  injection e with e
  injection e with e1 e2 _
  subst e1 e2
  refine ⟨_, _, rfl, ?_⟩
  rw [Nat.add_assoc, hc]
  congr 2
  simp [List.getD]

theorem Ints.caps {w : World} {B n c : Nat} {p : Option Addr} {xs : List Int} (h : Ints w B (.slice p n c) xs) : n ≤ c := row_cap h rfl
theorem Ints.ptr {w : World} {B n c : Nat} {p : Option Addr} {xs : List Int} (h : Ints w B (.slice p n c) xs) (hn : 0 < n) : ∃ g, p = some ⟨g, 0, none⟩ := by
  rcases h.2 with ⟨e, _⟩ | ⟨g, cap, cur, e, _⟩
  · injection e with _ e1 _; omega
  · injection e with e1 _ _; exact ⟨g, e1⟩

set_option maxRecDepth 100000 in
set_option maxHeartbeats 8000000 in
theorem decomposeExpanded_walk (p0 : Option Addr) (cap0 : Nat) (zs0 : List Int) (p1 : Option Addr) (cap1 : Nat) (zs1 : List Int) (n2 : Int) (w : World) (hin0 : IntsIn w p0 zs0) (hl0 : zs0.length ≤ 17592186043904) (hin1 : IntsIn w p1 zs1) (hl1 : zs1.length ≤ 17592186043904) (hr : Rsv w) :
    Calls Tryd.prog 3 #[.slice p0 zs0.length cap0, .slice p1 zs1.length cap1, .int .i64 n2] w (Gives (.bool true) w) := by
  have HI0 := Lib.hid hin0
  have HL0 := Lib.hid hl0
  have HI1 := Lib.hid hin1
  have HL1 := Lib.hid hl1
  have HR := Lib.hid hr
  clear hin0 hl0 hin1 hl1 hr
  go_enter Tryd.func3, Tryd.ntmps3
  go_wp2_with fail
  refine (tables_any p0 cap0 zs0 _ HI0.out HL0.out).mono ?_
  rintro e w1 ⟨⟨a0, a1, a2, a3, a4, a5, a6, a7, a8, a9, a10, a11⟩, T, rfl, htv, hm, hcap1, hb1⟩
  obtain ⟨pa0, na0, qa0, hsl0⟩ : Slc a0 := htv.cat.slc
  subst hsl0
  obtain ⟨pa1, na1, qa1, hsl1⟩ : Slc a1 := htv.cls.slc
  subst hsl1
  obtain ⟨pa2, na2, qa2, hsl2⟩ : Slc a2 := htv.joi.slc
  subst hsl2
  obtain ⟨pa3, na3, qa3, hsl3⟩ : Slc a3 := htv.bid.slc
  subst hsl3
  obtain ⟨pa4, na4, qa4, hsl4⟩ : Slc a4 := htv.scr.slc
  subst hsl4
  obtain ⟨pa5, na5, qa5, hsl5⟩ : Slc a5 := htv.sta.slc
  subst hsl5
  obtain ⟨pa6, na6, qa6, hsl6⟩ : Slc a6 := htv.ign.slc
  subst hsl6
  obtain ⟨pa7, na7, qa7, hsl7⟩ : Slc a7 := htv.ext.slc
  subst hsl7
  obtain ⟨pa8, na8, qa8, hsl8⟩ : Slc a8 := htv.map.slc
  subst hsl8
  obtain ⟨pa9, na9, qa9, hsl9⟩ : Slc a9 := htv.dec.slc
  subst hsl9
  obtain ⟨pa10, na10, qa10, hsl10⟩ : Slc a10 := htv.exc.slc
  subst hsl10
  obtain ⟨pa11, na11, qa11, hsl11⟩ : Slc a11 := htv.pro.slc
  subst hsl11
  have hba1 : Below w1.heap.size w1 (w1.alloc (.cells (tabCells ⟨.slice pa0 na0 qa0, .slice pa1 na1 qa1, .slice pa2 na2 qa2, .slice pa3 na3 qa3, .slice pa4 na4 qa4, .slice pa5 na5 qa5, .slice pa6 na6 qa6, .slice pa7 na7 qa7, .slice pa8 na8 qa8, .slice pa9 na9 qa9, .slice pa10 na10 qa10, .slice pa11 na11 qa11⟩) 26)) := (Below.refl _ _).alloc (Nat.le_refl _) _
  have HT1 : Hid (TabV (w1.alloc (.cells (tabCells ⟨.slice pa0 na0 qa0, .slice pa1 na1 qa1, .slice pa2 na2 qa2, .slice pa3 na3 qa3, .slice pa4 na4 qa4, .slice pa5 na5 qa5, .slice pa6 na6 qa6, .slice pa7 na7 qa7, .slice pa8 na8 qa8, .slice pa9 na9 qa9, .slice pa10 na10 qa10, .slice pa11 na11 qa11⟩) 26)) ⟨.slice pa0 na0 qa0, .slice pa1 na1 qa1, .slice pa2 na2 qa2, .slice pa3 na3 qa3, .slice pa4 na4 qa4, .slice pa5 na5 qa5, .slice pa6 na6 qa6, .slice pa7 na7 qa7, .slice pa8 na8 qa8, .slice pa9 na9 qa9, .slice pa10 na10 qa10, .slice pa11 na11 qa11⟩ T) := htv.below hba1
  have HX1 : Hid (BoxT (w1.alloc (.cells (tabCells ⟨.slice pa0 na0 qa0, .slice pa1 na1 qa1, .slice pa2 na2 qa2, .slice pa3 na3 qa3, .slice pa4 na4 qa4, .slice pa5 na5 qa5, .slice pa6 na6 qa6, .slice pa7 na7 qa7, .slice pa8 na8 qa8, .slice pa9 na9 qa9, .slice pa10 na10 qa10, .slice pa11 na11 qa11⟩) 26)) w1.heap.size ⟨.slice pa0 na0 qa0, .slice pa1 na1 qa1, .slice pa2 na2 qa2, .slice pa3 na3 qa3, .slice pa4 na4 qa4, .slice pa5 na5 qa5, .slice pa6 na6 qa6, .slice pa7 na7 qa7, .slice pa8 na8 qa8, .slice pa9 na9 qa9, .slice pa10 na10 qa10, .slice pa11 na11 qa11⟩) := BoxT.new _ _ _
  have HB1 : Hid (Below w.heap.size w (w1.alloc (.cells (tabCells ⟨.slice pa0 na0 qa0, .slice pa1 na1 qa1, .slice pa2 na2 qa2, .slice pa3 na3 qa3, .slice pa4 na4 qa4, .slice pa5 na5 qa5, .slice pa6 na6 qa6, .slice pa7 na7 qa7, .slice pa8 na8 qa8, .slice pa9 na9 qa9, .slice pa10 na10 qa10, .slice pa11 na11 qa11⟩) 26))) := hb1.trans (hba1.mono hb1.size)
  have HM := Lib.hid hm
  have HCAP : Hid (CapOf ⟨.slice pa0 na0 qa0, .slice pa1 na1 qa1, .slice pa2 na2 qa2, .slice pa3 na3 qa3, .slice pa4 na4 qa4, .slice pa5 na5 qa5, .slice pa6 na6 qa6, .slice pa7 na7 qa7, .slice pa8 na8 qa8, .slice pa9 na9 qa9, .slice pa10 na10 qa10, .slice pa11 na11 qa11⟩) := hcap1
  clear htv hm hcap1 hb1 hba1
  simp only [tabCells] at HT1 HX1 HB1
  go_wp2_with fail
  generalize (w1.alloc (.cells #[.slice pa0 na0 qa0, .slice pa1 na1 qa1, .slice pa2 na2 qa2, .slice pa3 na3 qa3, .slice pa4 na4 qa4, .slice pa5 na5 qa5, .slice pa6 na6 qa6, .slice pa7 na7 qa7, .slice pa8 na8 qa8, .slice pa9 na9 qa9, .slice pa10 na10 qa10, .slice pa11 na11 qa11] 26)) = W at HT1 HX1 HB1 ⊢
  generalize w1.heap.size = g at HX1 ⊢
  generalize (⟨.slice pa0 na0 qa0, .slice pa1 na1 qa1, .slice pa2 na2 qa2, .slice pa3 na3 qa3, .slice pa4 na4 qa4, .slice pa5 na5 qa5, .slice pa6 na6 qa6, .slice pa7 na7 qa7, .slice pa8 na8 qa8, .slice pa9 na9 qa9, .slice pa10 na10 qa10, .slice pa11 na11 qa11⟩ : TV) = x at HT1 HX1 HCAP
  have HE : Hid (LEnv w g x T W) := ⟨HT1.out, HX1.out, HB1.out⟩
  clear HT1 HX1 HB1
  refine (points_any p1 cap1 zs1 _ (HI1.out.below HE.out.bel) HL1.out).mono ?_
  rintro e w2 ⟨xs, v2, rfl, hn2, hs2, hi, hb⟩
  obtain ⟨na, hna⟩ : ∃ n, xs.length = n := ⟨_, rfl⟩
  obtain ⟨pa, ca, e2, hi2⟩ := hi.inn
  rw [hna] at hn2 e2
  subst e2
  replace HE := Lib.hid (HE.out.step hb)
  have HNA := Lib.hid hna
  have HSA := Lib.hid hs2
  have HA := Lib.hid hi2
  have hca := hi.caps
  by_cases hn0 : 0 < na
  · have dn : ((na : Int) == 0) = false := by simp; omega
    obtain ⟨ga, rfl⟩ := hi.ptr hn0
    clear hi hb hi2 hna hs2
    obtain ⟨k, HK, hk⟩ := pickN_nm n2 na (by omega)
    have hk2 : k < xs.length := by rw [HNA.out]; exact hk
    obtain ⟨c, hc⟩ : ∃ c, xs.getD k 0 = c := ⟨_, rfl⟩
    obtain ⟨bq, oq, eq, hck⟩ := HA.out k hk2
    injection eq with eq
    injection eq with eq1 eq2 _
    subst eq1 eq2
    rw [hc, Nat.zero_add] at hck
    have hsc : scaB c = true := List.all_eq_true.1 HSA.out c (by rw [← hc]; simp [hk2])
    obtain ⟨D, hD⟩ : ∃ D, Hid (oneT T c = D) := ⟨_, rfl⟩
    have hDX : D = expT T c := by rw [← hD.out]; unfold oneT; rw [if_pos ⟨hsc, HM.out.check⟩]
    obtain ⟨nd, hnd⟩ : ∃ n, D.length = n := ⟨_, rfl⟩
    have hndb : 1 ≤ nd ∧ nd ≤ 18 := by rw [← hnd, hDX]; exact exp_len HM.out.check c
    obtain ⟨hnd1, hnd18⟩ := hndb
    obtain ⟨V, hV⟩ : ∃ V, xs.take k ++ D ++ xs.drop (k + 1) = V := ⟨_, rfl⟩
    have hexp := nfd_expand HM.out.check xs HSA.out k hk2 (by rw [HNA.out]; omega)
    rw [hc, ← hDX, hV] at hexp
    obtain ⟨x1, x2, x3⟩ := hexp
    have HQE : Hid (eqvE T xs V = 0) := (eqv_both x1 x2).1
    have HQB : Hid (eqvB T xs V = true) := by unfold Hid; rw [(eqv_both x1 x2).2, x3]; simp
    obtain ⟨nv, hnv⟩ : ∃ n, V.length = n := ⟨_, rfl⟩
    have hnvb : nv ≤ 40 := by
      rw [← hnv, ← hV]
      simp only [List.length_append, List.length_take, List.length_drop]
      rw [hnd, HNA.out]
      omega
    have hoe := fun pz cz W (h1 : TabV W x T) h2 h3 h4 => equiv_at x T (some ⟨ga, 0, none⟩) ca xs pz cz V 0 true W h1 h2 h3 (by rw [HNA.out]; omega) h4 (by omega) HQE HQB
    rw [HNA.out, hnv] at hoe
    have HOE := Lib.hid hoe
    have hone := fun W (h1 : TabV W x T) h2 => dcmOne_at x T c D W h1 h2 hD
    have HONE := Lib.hid hone
    have HND := Lib.hid hnd
    have HNV := Lib.hid hnv
    have HVV := Lib.hid hV
    have HKL := Lib.hid hk2
    clear hc hsc hDX hnd hV x1 x2 x3 HQE HQB hnv hoe hone hk2
    go_wp2_with fail
    refine (pickN_at n2 na k _ (by omega) (by omega) HK).mono ?_
    rintro e w3 ⟨rfl, rfl⟩
    have hki : (k : Int) < (na : Int) := by omega
    go_upto_region 6 with (fail)
    go_cut [10] (fun a wx => ∃ pD cD, a = .slice pD nd cD ∧ Hid (LEnv w g x T wx) ∧ Hid (IntsIn wx (some ⟨ga, 0, none⟩) xs) ∧ Hid (IntsIn wx pD D))
    case first =>
      have e0 := HE.out.step (drew_one w2)
      have HE0 := Lib.hid e0
      have hckd : w2.drew.cell? ⟨ga, k, none⟩ = some (.int .i64 c) := hck
      clear e0
      obtain ⟨⟨k0, k1, k2, k3, k4, k5⟩, ⟨k6, k7, k8, k9, k10, k11⟩⟩ := HE.out.box.load
      go_region_held3 (fun W => boxF g x W ∧ W.cell? ⟨ga, k, none⟩ = some (.int .i64 c))
        (first
          | exact ⟨HE0.out.box.flat, hckd⟩
          | exact ⟨(HE0.out.step hb3).box.flat, (hb3.cell (p := ⟨ga, k, none⟩) (World.block_lt_of_cell? _ _ hckd)).trans hckd⟩)
        (first
          | (go_at_call 9; (with_reducible refine (HONE.out _ HE0.out.tab (HR.out.below HE0.out.bel)).mono ?_); rintro e w3 ⟨v3, rfl, ho3, hb3⟩; obtain ⟨pD, cD, e3, hi3⟩ := ho3.inn; rw [HND.out] at e3; subst e3)
          | fail)
      all_goals
        have hf := HE0.out.step hb3
        have hfa := (HA.out.below (drew_one w2)).below hb3
        try (go_wp2_with fail)
        go_meet
        exact ⟨pD, cD, rfl, hf, hfa, hi3⟩
    case rest =>
      obtain ⟨pD, cD, rfl, HE, HA, HD⟩ := hcut
      generalize wc = WA at HE HA HD ⊢
      clear hck HONE HK
      have hl1 : (xs.take k).length = k := by rw [List.length_take]; have := HKL.out; omega
      obtain ⟨j, hj⟩ : ∃ j, k + 1 = j := ⟨_, rfl⟩
      have hl3 : (xs.drop j).length = na - j := by rw [List.length_drop, HNA.out]
      have HT1 : Hid (IntsIn WA (some ⟨ga, 0, none⟩) (xs.take k)) := HA.out.take_in k
      obtain ⟨P3, hP3⟩ : ∃ P3, (if ca = j then some (⟨ga, 0, none⟩ : Addr) else some ⟨ga, j, none⟩) = P3 := ⟨_, rfl⟩
      have HT3 : Hid (IntsIn WA P3 (xs.drop j)) := by
        unfold Hid
        rw [← hP3]
        split
        · intro i hi
          rw [List.length_drop, HNA.out] at hi
          omega
        · have := HA.out.drop_in j
          rwa [Nat.zero_add] at this
      have HL1X := Lib.hid hl1
      have HL3X := Lib.hid hl3
      have HUV : Hid (([] : List Int) ++ xs.take k ++ D ++ xs.drop j = V) := by unfold Hid; rw [← HVV.out, ← hj]; simp
      have HLA : Hid (([] : List Int).length + (xs.take k).length ≤ 17592186043904) := by unfold Hid; rw [HL1X.out]; simp; omega
      have HLB : Hid ((([] : List Int) ++ xs.take k).length + D.length ≤ 17592186043904) := by unfold Hid; rw [List.nil_append, HL1X.out, HND.out]; omega
      have HLC : Hid ((([] : List Int) ++ xs.take k ++ D).length + (xs.drop j).length ≤ 17592186043904) := by unfold Hid; rw [List.nil_append, List.length_append, HL1X.out, HND.out, HL3X.out]; omega
      have hj1 : (k : Int) + 1 = (j : Int) := by omega
      have hj2 : IntKind.i64.wrap ((k : Int) + 1) = (j : Int) := by rw [IntWalk.i64_in _ (by omega)]; omega
      have hj3 : IntKind.i64.wrap (j : Int) = (j : Int) := IntWalk.i64_in _ (by omega)
      have hj4 : (j : Int) ≤ (na : Int) := by omega
      have hj5 : j ≤ na := by omega
      have hj6 : (k : Int) ≤ (ca : Int) := by omega
      have hj7 : k ≤ ca := by omega
      have hj8 : (na : Int) ≤ (ca : Int) := by omega
      have hd0 := drew_one WA
      have HD0 := Lib.hid hd0
      clear hd0 hl1 hl3 hj
      go_upto_region 7 with (fail)
      go_cut [11] (fun a wx => ∃ pV cV, a = .slice pV nv cV ∧ Hid (LEnv w g x T wx) ∧ Hid (IntsIn wx (some ⟨ga, 0, none⟩) xs) ∧ Hid (IntsIn wx pV V))
      case first =>
        go_region_held3 (fun _ => True)
          (trivial)
          (first
            | (refine step_app_ints (by rfl) (.const (.slice none 0 0)) (.tmp 34) (by rfl) WA.heap.size (.slice none 0 0) [] (by rfl) (Ints.nil _ _) (some ⟨ga, 0, none⟩) k _ (xs.take k) HL1X.out (by rfl) (HT1.out.below HD0.out) HLA.out (Nat.le_refl _) ?_; intro v6 w6 ho6 hg6; have hb6 : Below WA.heap.size WA w6 := below_appI HD0.out (Ints.nil WA.drew WA.heap.size) (Nat.le_refl _) hg6)
            | (refine step_app_ints (by rfl) (.tmp 35) (.tmp 36) (by rfl) WA.heap.size v6 ([] ++ xs.take k) (by rfl) ho6 pD nd cD D HND.out (by rfl) (HD.out.below hb6) HLB.out hb6.size ?_; intro v7 w7 ho7 hg7; have hb7 : Below WA.heap.size WA w7 := below_appI hb6 ho6 (Nat.le_refl _) hg7)
            | (refine step_app_ints (by rfl) (.tmp 37) (.tmp 41) (by rfl) WA.heap.size v7 ([] ++ xs.take k ++ D) (by rfl) ho7 P3 (na - j) _ (xs.drop j) HL3X.out (by rfl) (HT3.out.below hb7) HLC.out hb7.size ?_; intro v8 w8 ho8 hg8; have hb8 : Below WA.heap.size WA w8 := below_appI hb7 ho7 (Nat.le_refl _) hg8; rw [HUV.out] at ho8; obtain ⟨p8, c8, e8, hi8⟩ := ho8.inn; rw [HNV.out] at e8; subst e8)
            | fail)
        all_goals
          have hf := HE.out.step hb8
          have hfa := HA.out.below hb8
          try (go_wp2_with fail)
          go_meet
          exact ⟨p8, c8, rfl, hf, hfa, hi8⟩
      case rest =>
        obtain ⟨pV, cV, rfl, HE, HA, HV⟩ := hcut
        generalize wc = WB at HE HA HV ⊢
        have dg : decide ((0 : Int) < (nd : Int)) = true := decide_eq_true (by omega)
        clear HD HT1 HT3 HL1X HL3X HUV HLA HLB HLC HD0 hj1 hj2 hj3 hj4 hj5 hj6 hj7 hj8
        obtain ⟨⟨k0, k1, k2, k3, k4, k5⟩, ⟨k6, k7, k8, k9, k10, k11⟩⟩ := HE.out.box.load
        go_wp2_with fail
        refine (HOE.out pV cV _ HE.out.tab (HR.out.below HE.out.bel) HA.out HV.out).mono ?_
        rintro e w9 ⟨rfl, hb⟩
        replace HE := Lib.hid (HE.out.step hb)
        clear hb k0 k1 k2 k3 k4 k5 k6 k7 k8 k9 k10 k11
        go_wp2_with fail
        refine (awake7_any _ (HR.out.below HE.out.bel)).mono ?_
        rintro e w10 ⟨rfl, hb⟩
        have HB := Lib.hid (HE.out.step hb).bel
        clear hb
        go_wp2
        go_ret
        exact ⟨rfl, HB.out⟩
  · obtain rfl : na = 0 := by omega
    clear hi hb hi2 hna hs2 hn0
    go_wp2_with fail
    refine (awake7_any _ (HR.out.below HE.out.bel)).mono ?_
    rintro e w3 ⟨rfl, hb⟩
    have HB := Lib.hid (HE.out.step hb).bel
    clear hb
    go_wp2
    go_ret
    exact ⟨rfl, HB.out⟩

end Go.Proofs.YtgekoeobllhnnaaDoor
