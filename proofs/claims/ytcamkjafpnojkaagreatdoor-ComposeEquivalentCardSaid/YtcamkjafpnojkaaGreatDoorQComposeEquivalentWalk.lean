/-
  The walk of ComposeEquivalent (genCW.py).
-/
import Derived.Test.YtcamkjafpnojkaaGreatDoorPkZU
import Derived.Test.YtcamkjafpnojkaaGreatDoorQTblQ
import Derived.Test.YtcamkjafpnojkaaGreatDoorQTblC
import Derived.Deep.RegionHeld3
set_option linter.unusedSimpArgs false
set_option linter.unusedVariables false
namespace Go.Proofs.YtcamkjafpnojkaaGreatDoor
open Go.RowKit
set_option linter.unusedVariables false

theorem RowIn.take_in {t : IntKind} {w : World} {p : Option Addr} {xs : List Int} (h : RowIn t w p xs) (k : Nat) : RowIn t w p (xs.take k) := by
  intro j hj
  have hj2 : j < k ∧ j < xs.length := by rw [List.length_take] at hj; omega
  obtain ⟨b, off, e, hc⟩ := h j hj2.2
  refine ⟨b, off, e, ?_⟩
  rw [hc]
  congr 2
  simp [List.getD, List.getElem?_take, hj2.1]
theorem RowIn.drop_in {t : IntKind} {w : World} {b off : Nat} {xs : List Int} (h : RowIn t w (some ⟨b, off, none⟩) xs) (k : Nat) : RowIn t w (some ⟨b, off + k, none⟩) (xs.drop k) := by
  intro j hj
  have hj2 : k + j < xs.length := by rw [List.length_drop] at hj; omega
  obtain ⟨b2, off2, e, hc⟩ := h (k + j) hj2
  injection e with e
  injection e with e1 e2 _
  subst e1 e2
  refine ⟨_, _, rfl, ?_⟩
  rw [Nat.add_assoc, hc]
  congr 2
  simp [List.getD]

theorem Ints.caps {w : World} {B n c : Nat} {p : Option Addr} {xs : List Int} (h : Ints w B (.slice p n c) xs) : n ≤ c := row_cap h rfl
theorem Ints.ptr {w : World} {B n c : Nat} {p : Option Addr} {xs : List Int} (h : Ints w B (.slice p n c) xs) (hn : 0 < n) : ∃ g, p = some ⟨g, 0, none⟩ := by
  rcases h.2 with ⟨e, _⟩ | ⟨g, cap, cur, e, _⟩
  · injection e with _ e1 _; omega
  · injection e with e1 _ _; exact ⟨g, e1⟩

set_option maxRecDepth 100000 in
set_option maxHeartbeats 8000000 in
theorem composeEquivalent_walk (p0 : Option Addr) (cap0 : Nat) (zs0 : List Int) (p1 : Option Addr) (cap1 : Nat) (zs1 : List Int) (p2 : Option Addr) (cap2 : Nat) (zs2 : List Int) (n3 : Int) (w : World) (hin0 : IntsIn w p0 zs0) (hl0 : zs0.length ≤ 17592186043904) (hin1 : IntsIn w p1 zs1) (hl1 : zs1.length ≤ 17592186043904) (hin2 : IntsIn w p2 zs2) (hl2 : zs2.length ≤ 17592186043904) (hr : Rsv w) :
    Calls Tryz.prog 7 #[.slice p0 zs0.length cap0, .slice p1 zs1.length cap1, .slice p2 zs2.length cap2, .int .i64 n3] w (Gives (.bool true) w) := by
  have HI0 := Lib.hid hin0
  have HL0 := Lib.hid hl0
  have HI1 := Lib.hid hin1
  have HL1 := Lib.hid hl1
  have HI2 := Lib.hid hin2
  have HL2 := Lib.hid hl2
  have HR := Lib.hid hr
  clear hin0 hl0 hin1 hl1 hin2 hl2 hr
  go_enter Tryz.func7, Tryz.ntmps7
  go_wp2_with fail
  refine (tables_any p0 cap0 zs0 _ HI0.out HL0.out).mono ?_
  rintro e w1 ⟨⟨a0, a1, a2, a3, a4, a5, a6, a7, a8, a9, a10, a11⟩, T, rfl, htv, hm, hcap1, hb1⟩
  obtain ⟨pa0, na0, qa0, hsl0⟩ : Slc a0 := htv.cat.slc
  subst hsl0
  obtain ⟨pa1, na1, qa1, hsl1⟩ : Slc a1 := htv.cls.slc
  subst hsl1
  obtain ⟨pa2, na2, qa2, hsl2⟩ : Slc a2 := htv.joi.slc
  subst hsl2
  obtain ⟨pa3, na3, qa3, hsl3⟩ : Slc a3 := htv.bid.slc
  subst hsl3
  obtain ⟨pa4, na4, qa4, hsl4⟩ : Slc a4 := htv.scr.slc
  subst hsl4
  obtain ⟨pa5, na5, qa5, hsl5⟩ : Slc a5 := htv.sta.slc
  subst hsl5
  obtain ⟨pa6, na6, qa6, hsl6⟩ : Slc a6 := htv.ign.slc
  subst hsl6
  obtain ⟨pa7, na7, qa7, hsl7⟩ : Slc a7 := htv.ext.slc
  subst hsl7
  obtain ⟨pa8, na8, qa8, hsl8⟩ : Slc a8 := htv.map.slc
  subst hsl8
  obtain ⟨pa9, na9, qa9, hsl9⟩ : Slc a9 := htv.dec.slc
  subst hsl9
  obtain ⟨pa10, na10, qa10, hsl10⟩ : Slc a10 := htv.exc.slc
  subst hsl10
  obtain ⟨pa11, na11, qa11, hsl11⟩ : Slc a11 := htv.pro.slc
  subst hsl11
  have hba1 : Below w1.heap.size w1 (w1.alloc (.cells (tabCells ⟨.slice pa0 na0 qa0, .slice pa1 na1 qa1, .slice pa2 na2 qa2, .slice pa3 na3 qa3, .slice pa4 na4 qa4, .slice pa5 na5 qa5, .slice pa6 na6 qa6, .slice pa7 na7 qa7, .slice pa8 na8 qa8, .slice pa9 na9 qa9, .slice pa10 na10 qa10, .slice pa11 na11 qa11⟩) 26)) := (Below.refl _ _).alloc (Nat.le_refl _) _
  have HT1 : Hid (TabV (w1.alloc (.cells (tabCells ⟨.slice pa0 na0 qa0, .slice pa1 na1 qa1, .slice pa2 na2 qa2, .slice pa3 na3 qa3, .slice pa4 na4 qa4, .slice pa5 na5 qa5, .slice pa6 na6 qa6, .slice pa7 na7 qa7, .slice pa8 na8 qa8, .slice pa9 na9 qa9, .slice pa10 na10 qa10, .slice pa11 na11 qa11⟩) 26)) ⟨.slice pa0 na0 qa0, .slice pa1 na1 qa1, .slice pa2 na2 qa2, .slice pa3 na3 qa3, .slice pa4 na4 qa4, .slice pa5 na5 qa5, .slice pa6 na6 qa6, .slice pa7 na7 qa7, .slice pa8 na8 qa8, .slice pa9 na9 qa9, .slice pa10 na10 qa10, .slice pa11 na11 qa11⟩ T) := htv.below hba1
  have HX1 : Hid (BoxT (w1.alloc (.cells (tabCells ⟨.slice pa0 na0 qa0, .slice pa1 na1 qa1, .slice pa2 na2 qa2, .slice pa3 na3 qa3, .slice pa4 na4 qa4, .slice pa5 na5 qa5, .slice pa6 na6 qa6, .slice pa7 na7 qa7, .slice pa8 na8 qa8, .slice pa9 na9 qa9, .slice pa10 na10 qa10, .slice pa11 na11 qa11⟩) 26)) w1.heap.size ⟨.slice pa0 na0 qa0, .slice pa1 na1 qa1, .slice pa2 na2 qa2, .slice pa3 na3 qa3, .slice pa4 na4 qa4, .slice pa5 na5 qa5, .slice pa6 na6 qa6, .slice pa7 na7 qa7, .slice pa8 na8 qa8, .slice pa9 na9 qa9, .slice pa10 na10 qa10, .slice pa11 na11 qa11⟩) := BoxT.new _ _ _
  have HB1 : Hid (Below w.heap.size w (w1.alloc (.cells (tabCells ⟨.slice pa0 na0 qa0, .slice pa1 na1 qa1, .slice pa2 na2 qa2, .slice pa3 na3 qa3, .slice pa4 na4 qa4, .slice pa5 na5 qa5, .slice pa6 na6 qa6, .slice pa7 na7 qa7, .slice pa8 na8 qa8, .slice pa9 na9 qa9, .slice pa10 na10 qa10, .slice pa11 na11 qa11⟩) 26))) := hb1.trans (hba1.mono hb1.size)
  have HM := Lib.hid hm
  have HCAP : Hid (CapOf ⟨.slice pa0 na0 qa0, .slice pa1 na1 qa1, .slice pa2 na2 qa2, .slice pa3 na3 qa3, .slice pa4 na4 qa4, .slice pa5 na5 qa5, .slice pa6 na6 qa6, .slice pa7 na7 qa7, .slice pa8 na8 qa8, .slice pa9 na9 qa9, .slice pa10 na10 qa10, .slice pa11 na11 qa11⟩) := hcap1
  clear htv hm hcap1 hb1 hba1
  simp only [tabCells] at HT1 HX1 HB1
  go_wp2_with fail
  generalize (w1.alloc (.cells #[.slice pa0 na0 qa0, .slice pa1 na1 qa1, .slice pa2 na2 qa2, .slice pa3 na3 qa3, .slice pa4 na4 qa4, .slice pa5 na5 qa5, .slice pa6 na6 qa6, .slice pa7 na7 qa7, .slice pa8 na8 qa8, .slice pa9 na9 qa9, .slice pa10 na10 qa10, .slice pa11 na11 qa11] 26)) = W at HT1 HX1 HB1 ⊢
  generalize w1.heap.size = g at HX1 ⊢
  generalize (⟨.slice pa0 na0 qa0, .slice pa1 na1 qa1, .slice pa2 na2 qa2, .slice pa3 na3 qa3, .slice pa4 na4 qa4, .slice pa5 na5 qa5, .slice pa6 na6 qa6, .slice pa7 na7 qa7, .slice pa8 na8 qa8, .slice pa9 na9 qa9, .slice pa10 na10 qa10, .slice pa11 na11 qa11⟩ : TV) = x at HT1 HX1 HCAP
  have HE : Hid (LEnv w g x T W) := ⟨HT1.out, HX1.out, HB1.out⟩
  clear HT1 HX1 HB1
  refine (dense_any p1 cap1 zs1 _ (HI1.out.below HE.out.bel) HL1.out).mono ?_
  rintro e wka ⟨xa, va, rfl, hna, hsa, hi, hb⟩
  obtain ⟨na, hNa⟩ : ∃ n, xa.length = n := ⟨_, rfl⟩
  obtain ⟨pa, ca, ea, hia⟩ := hi.inn
  rw [hNa] at hna ea
  subst ea
  replace HE := Lib.hid (HE.out.step hb)
  have hcapa := hi.caps
  have HPA : Hid (0 < na → ∃ g, pa = some ⟨g, 0, none⟩) := fun h => hi.ptr h
  have HA := Lib.hid hia
  have HSA := Lib.hid hsa
  have HNA := Lib.hid hNa
  clear hi hb hia hsa hNa
  go_wp2_with fail
  refine (dense_any p2 cap2 zs2 _ (HI2.out.below HE.out.bel) HL2.out).mono ?_
  rintro e wkb ⟨xb, vb, rfl, hnb, hsb, hi, hb⟩
  obtain ⟨nb, hNb⟩ : ∃ n, xb.length = n := ⟨_, rfl⟩
  obtain ⟨pb, cb, eb, hib⟩ := hi.inn
  rw [hNb] at hnb eb
  subst eb
  replace HE := Lib.hid (HE.out.step hb)
  replace HA := Lib.hid (HA.out.below hb)
  have HB := Lib.hid hib
  have HSB := Lib.hid hsb
  have HNB := Lib.hid hNb
  clear hi hb hib hsb hNb
  obtain ⟨j0, HJ, hj2⟩ := pickN_nm n3 2 (by omega)
  go_wp2_with fail
  refine (pickN_at n3 2 j0 _ (by omega) (by omega) HJ).mono ?_
  rintro e wj ⟨rfl, rfl⟩
  clear HJ
  by_cases h0 : j0 = 0
  · have d0 : ((j0 : Int) == 0) = true := by simp; omega
    clear h0
    by_cases h1 : 0 < na
    · have d1 : decide ((0 : Int) < (na : Int)) = true := decide_eq_true (by omega)
      obtain ⟨ga, rfl⟩ := HPA.out h1
      obtain ⟨z, hz⟩ : ∃ z, IntKind.i64.wrap (n3.tdiv 2) = z := ⟨_, rfl⟩
      obtain ⟨k, HK, hk⟩ := pickN_nm z na (by omega)
      have hk2 : k < xa.length := by rw [HNA.out]; exact hk
      obtain ⟨c, hc⟩ : ∃ c, xa.getD k 0 = c := ⟨_, rfl⟩
      obtain ⟨bq, oq, eq, hck⟩ := HA.out k hk2
      injection eq with eq
      injection eq with eq1 eq2 _
      subst eq1 eq2
      rw [hc, Nat.zero_add] at hck
      have hsc : scaB c = true := List.all_eq_true.1 HSA.out c (by rw [← hc]; simp [hk2])
      obtain ⟨D, hD⟩ : ∃ D, Hid (oneT T c = D) := ⟨_, rfl⟩
      have hDX : D = expT T c := by rw [← hD.out]; unfold oneT; rw [if_pos ⟨hsc, HM.out.check⟩]
      obtain ⟨nd, hnd⟩ : ∃ n, D.length = n := ⟨_, rfl⟩
      have hndb : 1 ≤ nd ∧ nd ≤ 18 := by rw [← hnd, hDX]; exact exp_len HM.out.check c
      obtain ⟨hnd1, hnd18⟩ := hndb
      obtain ⟨V, hV⟩ : ∃ V, xa.take k ++ D ++ xa.drop (k + 1) = V := ⟨_, rfl⟩
      have hexp := nfd_expand HM.out.check xa HSA.out k hk2 (by rw [HNA.out]; omega)
      rw [hc, ← hDX, hV] at hexp
      have HEV : Hid (nfdE T V = 0) := hexp.2.1
      obtain ⟨nv, hnv⟩ : ∃ n, V.length = n := ⟨_, rfl⟩
      have hnvb : nv ≤ 40 := by
        rw [← hnv, ← hV]
        simp only [List.length_append, List.length_take, List.length_drop]
        rw [hnd, HNA.out]
        omega
      have HONE := Lib.hid (fun W (h1 : TabV W x T) => rone_at x T c D W h1 HCAP.out hD)
      have HND := Lib.hid hnd
      have HNV := Lib.hid hnv
      have hl1 : (xa.take k).length = k := by rw [List.length_take, HNA.out]; omega
      obtain ⟨j, hj⟩ : ∃ j, k + 1 = j := ⟨_, rfl⟩
      have hl3 : (xa.drop j).length = na - j := by rw [List.length_drop, HNA.out]
      have HT1 : Hid (IntsIn wkb (some ⟨ga, 0, none⟩) (xa.take k)) := HA.out.take_in k
      obtain ⟨P3, hP3⟩ : ∃ P3, (if ca = j then some (⟨ga, 0, none⟩ : Addr) else some ⟨ga, j, none⟩) = P3 := ⟨_, rfl⟩
      have HT3 : Hid (IntsIn wkb P3 (xa.drop j)) := by
        unfold Hid
        rw [← hP3]
        split
        · intro i hi
          rw [List.length_drop, HNA.out] at hi
          omega
        · have := HA.out.drop_in j
          rwa [Nat.zero_add] at this
      have HL1X := Lib.hid hl1
      have HL3X := Lib.hid hl3
      have HUV : Hid (([] : List Int) ++ xa.take k ++ D ++ xa.drop j = V) := by unfold Hid; rw [← hV, ← hj]; simp
      have HLA : Hid (([] : List Int).length + (xa.take k).length ≤ 17592186043904) := by unfold Hid; rw [HL1X.out]; simp; omega
      have HLB : Hid ((([] : List Int) ++ xa.take k).length + D.length ≤ 17592186043904) := by unfold Hid; rw [List.nil_append, HL1X.out, HND.out]; omega
      have HLC : Hid ((([] : List Int) ++ xa.take k ++ D).length + (xa.drop j).length ≤ 17592186043904) := by unfold Hid; rw [List.nil_append, List.length_append, HL1X.out, HND.out, HL3X.out]; omega
      have hj1 : (k : Int) + 1 = (j : Int) := by omega
      have hj2' : IntKind.i64.wrap ((k : Int) + 1) = (j : Int) := by rw [IntWalk.i64_in _ (by omega)]; omega
      have hj3 : IntKind.i64.wrap (j : Int) = (j : Int) := IntWalk.i64_in _ (by omega)
      have hj4 : (j : Int) ≤ (na : Int) := by omega
      have hj5 : j ≤ na := by omega
      have hj6 : (k : Int) ≤ (ca : Int) := by omega
      have hj7 : k ≤ ca := by omega
      have hj8 : (na : Int) ≤ (ca : Int) := by omega
      have hki : (k : Int) < (na : Int) := by omega
      have hd0 := drew_one wkb
      have HD0 := Lib.hid hd0
      have HKC := Lib.hid hck
      clear hc hsc hDX hnd hV hexp hnv hk2 hl1 hl3 hj hd0 hck hD
      go_wp2_with fail
      refine (pickN_at z na k _ (by omega) (by omega) HK).mono ?_
      rintro e wp ⟨rfl, rfl⟩
      obtain ⟨⟨k0, k1, k2, k3, k4, k5⟩, ⟨k6, k7, k8, k9, k10, k11⟩⟩ := HE.out.box.load
      have hck := HKC.out
      go_upto_region 5 with (fail)
      go_cut [11] (fun a wx => ∃ pV cV, a = .slice pV nv cV ∧ Hid (LEnv w g x T wx) ∧ Hid (IntsIn wx (some ⟨ga, 0, none⟩) xa) ∧ Hid (IntsIn wx pV V))
      case first =>
        go_region_held3 (fun W => boxF g x W ∧ W.cell? ⟨ga, k, none⟩ = some (.int .i64 c))
          (first
            | exact ⟨(HE.out.step HD0.out).box.flat, (HD0.out.cell (p := ⟨ga, k, none⟩) (World.block_lt_of_cell? _ _ HKC.out)).trans HKC.out⟩
            | exact ⟨(HE.out.step hb6).box.flat, (hb6.cell (p := ⟨ga, k, none⟩) (World.block_lt_of_cell? _ _ HKC.out)).trans HKC.out⟩
            | exact ⟨(HE.out.step hbo).box.flat, (hbo.cell (p := ⟨ga, k, none⟩) (World.block_lt_of_cell? _ _ HKC.out)).trans HKC.out⟩
            | exact ⟨(HE.out.step hb7).box.flat, (hb7.cell (p := ⟨ga, k, none⟩) (World.block_lt_of_cell? _ _ HKC.out)).trans HKC.out⟩
            | exact ⟨(HE.out.step hb8).box.flat, (hb8.cell (p := ⟨ga, k, none⟩) (World.block_lt_of_cell? _ _ HKC.out)).trans HKC.out⟩)
          (first
            | (go_at_call 26; (with_reducible refine (HONE.out _ (HE.out.step hb6).tab).mono ?_); rintro e w5 ⟨p5, m5, c5, rfl, hl5, hm5, hi5, hb5⟩; obtain rfl : m5 = nd := hl5.symm.trans HND.out; have hbo : Below wkb.heap.size wkb w5 := hb6.trans (hb5.mono hb6.size); have hv6 := ho6.below hb5)
            | (go_at_call 26; (with_reducible refine (HONE.out _ (HE.out.step HD0.out).tab).mono ?_); rintro e w5 ⟨p5, m5, c5, rfl, hl5, hm5, hi5, hb5⟩; obtain rfl : m5 = nd := hl5.symm.trans HND.out; have hbo : Below wkb.heap.size wkb w5 := HD0.out.trans (hb5.mono HD0.out.size))
            | (refine step_app_ints (by rfl) (.const (.slice none 0 0)) (.tmp 40) (by rfl) wkb.heap.size (.slice none 0 0) [] (by rfl) (Ints.nil wkb.drew _) (some ⟨ga, 0, none⟩) k _ (xa.take k) HL1X.out (by rfl) (HT1.out.below HD0.out) HLA.out (Nat.le_refl _) ?_; intro v6 w6 ho6 hg6; have hb6 : Below wkb.heap.size wkb w6 := below_appI HD0.out (Ints.nil wkb.drew wkb.heap.size) (Nat.le_refl _) hg6)
            | (refine step_app_ints (by rfl) (.const (.slice none 0 0)) (.tmp 40) (by rfl) wkb.heap.size (.slice none 0 0) [] (by rfl) (Ints.nil w5 _) (some ⟨ga, 0, none⟩) k _ (xa.take k) HL1X.out (by rfl) (HT1.out.below hbo) HLA.out hbo.size ?_; intro v6 w6 ho6 hg6; have hb6 : Below wkb.heap.size wkb w6 := below_appI hbo (Ints.nil w5 wkb.heap.size) (Nat.le_refl _) hg6; have hi6 : IntsIn w6 p5 D := hi5.below (below_appI (Below.refl _ _) (Ints.nil _ _) (Nat.le_refl _) hg6))
            | (refine step_app_ints (by rfl) (.tmp 41) (.tmp 47) (by rfl) wkb.heap.size v6 ([] ++ xa.take k) (by rfl) hv6 p5 m5 c5 D hl5 (by rfl) hi5 HLB.out hbo.size ?_; intro v7 w7 ho7 hg7; have hb7 : Below wkb.heap.size wkb w7 := below_appI hbo hv6 (Nat.le_refl _) hg7)
            | (refine step_app_ints (by rfl) (.tmp 41) (.tmp 47) (by rfl) wkb.heap.size v6 ([] ++ xa.take k) (by rfl) ho6 p5 m5 c5 D hl5 (by rfl) hi6 HLB.out hb6.size ?_; intro v7 w7 ho7 hg7; have hb7 : Below wkb.heap.size wkb w7 := below_appI hb6 ho6 (Nat.le_refl _) hg7)
            | (refine step_app_ints (by rfl) (.tmp 48) (.tmp 52) (by rfl) wkb.heap.size v7 ([] ++ xa.take k ++ D) (by rfl) ho7 P3 (na - j) _ (xa.drop j) HL3X.out (by rfl) (HT3.out.below hb7) HLC.out hb7.size ?_; intro v8 w8 ho8 hg8; have hb8 : Below wkb.heap.size wkb w8 := below_appI hb7 ho7 (Nat.le_refl _) hg8; rw [HUV.out] at ho8; obtain ⟨p8, c8, e8, hi8⟩ := ho8.inn; rw [HNV.out] at e8; subst e8)
            | fail)
        all_goals
          have hf := HE.out.step hb8
          have hfa := HA.out.below hb8
          try (go_wp2_with fail)
          go_meet
          exact ⟨p8, c8, rfl, hf, hfa, hi8⟩
      case rest =>
        obtain ⟨pV, cV, rfl, HE, HA, HV⟩ := hcut
        generalize wc = WB at HE HA HV ⊢
        clear HB HT1 HT3 HL1X HL3X HUV HLA HLB HLC HD0 HKC hj1 hj2' hj3 hj4 hj5 hj6 hj7 hj8 hP3 HONE HND hki hck k0 k1 k2 k3 k4 k5 k6 k7 k8 k9 k10 k11
        have HEA := Lib.hid (nfd_small (T := T) HM.out.check HSA.out (by rw [HNA.out]; omega))
        have HEY : Hid (nfdE T V = 0) := HEV
        obtain ⟨La, hLa⟩ : ∃ L, Hid (nfcL T xa = L) := ⟨_, rfl⟩
        obtain ⟨Lb, hLb⟩ : ∃ L, Hid (nfcL T V = L) := ⟨_, rfl⟩
        obtain ⟨B1, hB1⟩ : ∃ B, (La == Lb) = B := ⟨_, rfl⟩
        have q1 : Hid (eqvE T xa V = 0) := (eqv_both HEA.out HEY.out).1
        have q2 : Hid (eqvB T xa V = B1) := by
          unfold Hid
          rw [(eqv_both HEA.out HEY.out).2, ← nfc_eq HEA.out HEY.out, hLa.out, hLb.out]; exact hB1
        have HB1 := Lib.hid hB1
        have HLA : Hid (La.length ≤ 17592186043904) := by unfold Hid; rw [← hLa.out]; have := nfcL_len T xa; omega
        have HLB : Hid (Lb.length ≤ 17592186043904) := by unfold Hid; rw [← hLb.out]; have := nfcL_len T V; omega
        clear hB1
        have lA : xa.length ≤ 17592186043904 := by rw [HNA.out]; omega
        have lY : V.length ≤ 17592186043904 := by rw [HNV.out]; omega
        have o1 := fun W (h1 : TabV W x T) h2 h3 => nfc_at x T (some ⟨ga, 0, none⟩) ca xa 0 La W h1 h2 h3 lA HEA hLa
        have o2 := fun W (h1 : TabV W x T) h2 h3 => nfc_at x T pV cV V 0 Lb W h1 h2 h3 lY HEY hLb
        have o3 := fun W (h1 : TabV W x T) h3 h4 => requiv_at x T (some ⟨ga, 0, none⟩) ca xa pV cV V 0 B1 W h1 HCAP.out h3 lA h4 lY q1 q2
        rw [HNA.out] at o1 o3
        rw [HNV.out] at o2 o3
        have O1 := Lib.hid o1
        have O2 := Lib.hid o2
        have O3 := Lib.hid o3
        clear o1 o2 o3 lA lY q1 q2 HEA HEY
        obtain ⟨⟨k0, k1, k2, k3, k4, k5⟩, ⟨k6, k7, k8, k9, k10, k11⟩⟩ := HE.out.box.load
        go_wp2_with fail
        refine (O1.out _ HE.out.tab (HR.out.below HE.out.bel) HA.out).mono ?_
        rintro e wq1 ⟨vq1, rfl, ho1, hb⟩
        replace HE := Lib.hid (HE.out.step hb)
        replace HA := Lib.hid (HA.out.below hb)
        replace HV := Lib.hid (HV.out.below hb)
        have HQ1 := Lib.hid ho1
        clear ho1 hb k0 k1 k2 k3 k4 k5 k6 k7 k8 k9 k10 k11
        obtain ⟨⟨k0, k1, k2, k3, k4, k5⟩, ⟨k6, k7, k8, k9, k10, k11⟩⟩ := HE.out.box.load
        go_wp2_with fail
        refine (O2.out _ HE.out.tab (HR.out.below HE.out.bel) HV.out).mono ?_
        rintro e wq2 ⟨vq2, rfl, ho2, hb⟩
        replace HE := Lib.hid (HE.out.step hb)
        replace HA := Lib.hid (HA.out.below hb)
        replace HV := Lib.hid (HV.out.below hb)
        replace HQ1 := Lib.hid (HQ1.out.below hb)
        have HQ2 := Lib.hid ho2
        clear ho2 hb k0 k1 k2 k3 k4 k5 k6 k7 k8 k9 k10 k11
        obtain ⟨⟨k0, k1, k2, k3, k4, k5⟩, ⟨k6, k7, k8, k9, k10, k11⟩⟩ := HE.out.box.load
        go_wp2_with fail
        refine (O3.out _ HE.out.tab HA.out HV.out).mono ?_
        rintro e wq3 ⟨rfl, hb⟩
        replace HE := Lib.hid (HE.out.step hb)
        replace HQ1 := Lib.hid (HQ1.out.below hb)
        replace HQ2 := Lib.hid (HQ2.out.below hb)
        clear hb k0 k1 k2 k3 k4 k5 k6 k7 k8 k9 k10 k11
        go_wp2_with fail
        refine (awake8_any _ (HR.out.below HE.out.bel)).mono ?_
        rintro e wz ⟨rfl, hb⟩
        replace HE := Lib.hid (HE.out.step hb)
        replace HQ1 := Lib.hid (HQ1.out.below hb)
        replace HQ2 := Lib.hid (HQ2.out.below hb)
        clear hb
        have t1 : (B1 == B1) = true := by simp
        go_wp2_with fail
        refine (same_at vq1 vq2 La Lb B1 _ (HQ1.out.inV HLA.out) (HQ2.out.inV HLB.out) HB1).mono ?_
        rintro e wy ⟨rfl, hb⟩
        have HZ := Lib.hid (HE.out.step hb).bel
        clear hb
        go_wp2
        go_ret
        exact ⟨by simp, HZ.out⟩
    · have d1 : decide ((0 : Int) < (na : Int)) = false := decide_eq_false (by omega)
      have HEA := Lib.hid (nfd_small (T := T) HM.out.check HSA.out (by rw [HNA.out]; omega))
      have HEY : Hid (nfdE T xb = 0) := Lib.hid (nfd_small (T := T) HM.out.check HSB.out (by rw [HNB.out]; omega))
      obtain ⟨La, hLa⟩ : ∃ L, Hid (nfcL T xa = L) := ⟨_, rfl⟩
      obtain ⟨Lb, hLb⟩ : ∃ L, Hid (nfcL T xb = L) := ⟨_, rfl⟩
      obtain ⟨B1, hB1⟩ : ∃ B, (La == Lb) = B := ⟨_, rfl⟩
      have q1 : Hid (eqvE T xa xb = 0) := (eqv_both HEA.out HEY.out).1
      have q2 : Hid (eqvB T xa xb = B1) := by
        unfold Hid
        rw [(eqv_both HEA.out HEY.out).2, ← nfc_eq HEA.out HEY.out, hLa.out, hLb.out]; exact hB1
      have HB1 := Lib.hid hB1
      have HLA : Hid (La.length ≤ 17592186043904) := by unfold Hid; rw [← hLa.out]; have := nfcL_len T xa; omega
      have HLB : Hid (Lb.length ≤ 17592186043904) := by unfold Hid; rw [← hLb.out]; have := nfcL_len T xb; omega
      clear hB1
      have lA : xa.length ≤ 17592186043904 := by rw [HNA.out]; omega
      have lY : xb.length ≤ 17592186043904 := by rw [HNB.out]; omega
      have o1 := fun W (h1 : TabV W x T) h2 h3 => nfc_at x T pa ca xa 0 La W h1 h2 h3 lA HEA hLa
      have o2 := fun W (h1 : TabV W x T) h2 h3 => nfc_at x T pb cb xb 0 Lb W h1 h2 h3 lY HEY hLb
      have o3 := fun W (h1 : TabV W x T) h3 h4 => requiv_at x T pa ca xa pb cb xb 0 B1 W h1 HCAP.out h3 lA h4 lY q1 q2
      rw [HNA.out] at o1 o3
      rw [HNB.out] at o2 o3
      have O1 := Lib.hid o1
      have O2 := Lib.hid o2
      have O3 := Lib.hid o3
      clear o1 o2 o3 lA lY q1 q2 HEA HEY
      obtain ⟨⟨k0, k1, k2, k3, k4, k5⟩, ⟨k6, k7, k8, k9, k10, k11⟩⟩ := HE.out.box.load
      go_wp2_with fail
      refine (O1.out _ HE.out.tab (HR.out.below HE.out.bel) HA.out).mono ?_
      rintro e wq1 ⟨vq1, rfl, ho1, hb⟩
      replace HE := Lib.hid (HE.out.step hb)
      replace HA := Lib.hid (HA.out.below hb)
      replace HB := Lib.hid (HB.out.below hb)
      have HQ1 := Lib.hid ho1
      clear ho1 hb k0 k1 k2 k3 k4 k5 k6 k7 k8 k9 k10 k11
      obtain ⟨⟨k0, k1, k2, k3, k4, k5⟩, ⟨k6, k7, k8, k9, k10, k11⟩⟩ := HE.out.box.load
      go_wp2_with fail
      refine (O2.out _ HE.out.tab (HR.out.below HE.out.bel) HB.out).mono ?_
      rintro e wq2 ⟨vq2, rfl, ho2, hb⟩
      replace HE := Lib.hid (HE.out.step hb)
      replace HA := Lib.hid (HA.out.below hb)
      replace HB := Lib.hid (HB.out.below hb)
      replace HQ1 := Lib.hid (HQ1.out.below hb)
      have HQ2 := Lib.hid ho2
      clear ho2 hb k0 k1 k2 k3 k4 k5 k6 k7 k8 k9 k10 k11
      obtain ⟨⟨k0, k1, k2, k3, k4, k5⟩, ⟨k6, k7, k8, k9, k10, k11⟩⟩ := HE.out.box.load
      go_wp2_with fail
      refine (O3.out _ HE.out.tab HA.out HB.out).mono ?_
      rintro e wq3 ⟨rfl, hb⟩
      replace HE := Lib.hid (HE.out.step hb)
      replace HQ1 := Lib.hid (HQ1.out.below hb)
      replace HQ2 := Lib.hid (HQ2.out.below hb)
      clear hb k0 k1 k2 k3 k4 k5 k6 k7 k8 k9 k10 k11
      go_wp2_with fail
      refine (awake8_any _ (HR.out.below HE.out.bel)).mono ?_
      rintro e wz ⟨rfl, hb⟩
      replace HE := Lib.hid (HE.out.step hb)
      replace HQ1 := Lib.hid (HQ1.out.below hb)
      replace HQ2 := Lib.hid (HQ2.out.below hb)
      clear hb
      have t1 : (B1 == B1) = true := by simp
      go_wp2_with fail
      refine (same_at vq1 vq2 La Lb B1 _ (HQ1.out.inV HLA.out) (HQ2.out.inV HLB.out) HB1).mono ?_
      rintro e wy ⟨rfl, hb⟩
      have HZ := Lib.hid (HE.out.step hb).bel
      clear hb
      go_wp2
      go_ret
      exact ⟨by simp, HZ.out⟩
  · have d0 : ((j0 : Int) == 0) = false := by simp; omega
    have HEA := Lib.hid (nfd_small (T := T) HM.out.check HSA.out (by rw [HNA.out]; omega))
    have HEY : Hid (nfdE T xb = 0) := Lib.hid (nfd_small (T := T) HM.out.check HSB.out (by rw [HNB.out]; omega))
    obtain ⟨La, hLa⟩ : ∃ L, Hid (nfcL T xa = L) := ⟨_, rfl⟩
    obtain ⟨Lb, hLb⟩ : ∃ L, Hid (nfcL T xb = L) := ⟨_, rfl⟩
    obtain ⟨B1, hB1⟩ : ∃ B, (La == Lb) = B := ⟨_, rfl⟩
    have q1 : Hid (eqvE T xa xb = 0) := (eqv_both HEA.out HEY.out).1
    have q2 : Hid (eqvB T xa xb = B1) := by
      unfold Hid
      rw [(eqv_both HEA.out HEY.out).2, ← nfc_eq HEA.out HEY.out, hLa.out, hLb.out]; exact hB1
    have HB1 := Lib.hid hB1
    have HLA : Hid (La.length ≤ 17592186043904) := by unfold Hid; rw [← hLa.out]; have := nfcL_len T xa; omega
    have HLB : Hid (Lb.length ≤ 17592186043904) := by unfold Hid; rw [← hLb.out]; have := nfcL_len T xb; omega
    clear hB1
    have lA : xa.length ≤ 17592186043904 := by rw [HNA.out]; omega
    have lY : xb.length ≤ 17592186043904 := by rw [HNB.out]; omega
    have o1 := fun W (h1 : TabV W x T) h2 h3 => nfc_at x T pa ca xa 0 La W h1 h2 h3 lA HEA hLa
    have o2 := fun W (h1 : TabV W x T) h2 h3 => nfc_at x T pb cb xb 0 Lb W h1 h2 h3 lY HEY hLb
    have o3 := fun W (h1 : TabV W x T) h3 h4 => requiv_at x T pa ca xa pb cb xb 0 B1 W h1 HCAP.out h3 lA h4 lY q1 q2
    rw [HNA.out] at o1 o3
    rw [HNB.out] at o2 o3
    have O1 := Lib.hid o1
    have O2 := Lib.hid o2
    have O3 := Lib.hid o3
    clear o1 o2 o3 lA lY q1 q2 HEA HEY
    obtain ⟨⟨k0, k1, k2, k3, k4, k5⟩, ⟨k6, k7, k8, k9, k10, k11⟩⟩ := HE.out.box.load
    go_wp2_with fail
    refine (O1.out _ HE.out.tab (HR.out.below HE.out.bel) HA.out).mono ?_
    rintro e wq1 ⟨vq1, rfl, ho1, hb⟩
    replace HE := Lib.hid (HE.out.step hb)
    replace HA := Lib.hid (HA.out.below hb)
    replace HB := Lib.hid (HB.out.below hb)
    have HQ1 := Lib.hid ho1
    clear ho1 hb k0 k1 k2 k3 k4 k5 k6 k7 k8 k9 k10 k11
    obtain ⟨⟨k0, k1, k2, k3, k4, k5⟩, ⟨k6, k7, k8, k9, k10, k11⟩⟩ := HE.out.box.load
    go_wp2_with fail
    refine (O2.out _ HE.out.tab (HR.out.below HE.out.bel) HB.out).mono ?_
    rintro e wq2 ⟨vq2, rfl, ho2, hb⟩
    replace HE := Lib.hid (HE.out.step hb)
    replace HA := Lib.hid (HA.out.below hb)
    replace HB := Lib.hid (HB.out.below hb)
    replace HQ1 := Lib.hid (HQ1.out.below hb)
    have HQ2 := Lib.hid ho2
    clear ho2 hb k0 k1 k2 k3 k4 k5 k6 k7 k8 k9 k10 k11
    obtain ⟨⟨k0, k1, k2, k3, k4, k5⟩, ⟨k6, k7, k8, k9, k10, k11⟩⟩ := HE.out.box.load
    go_wp2_with fail
    refine (O3.out _ HE.out.tab HA.out HB.out).mono ?_
    rintro e wq3 ⟨rfl, hb⟩
    replace HE := Lib.hid (HE.out.step hb)
    replace HQ1 := Lib.hid (HQ1.out.below hb)
    replace HQ2 := Lib.hid (HQ2.out.below hb)
    clear hb k0 k1 k2 k3 k4 k5 k6 k7 k8 k9 k10 k11
    go_wp2_with fail
    refine (awake8_any _ (HR.out.below HE.out.bel)).mono ?_
    rintro e wz ⟨rfl, hb⟩
    replace HE := Lib.hid (HE.out.step hb)
    replace HQ1 := Lib.hid (HQ1.out.below hb)
    replace HQ2 := Lib.hid (HQ2.out.below hb)
    clear hb
    have t1 : (B1 == B1) = true := by simp
    go_wp2_with fail
    refine (same_at vq1 vq2 La Lb B1 _ (HQ1.out.inV HLA.out) (HQ2.out.inV HLB.out) HB1).mono ?_
    rintro e wy ⟨rfl, hb⟩
    have HZ := Lib.hid (HE.out.step hb).bel
    clear hb
    go_wp2
    go_ret
    exact ⟨by simp, HZ.out⟩

end Go.Proofs.YtcamkjafpnojkaaGreatDoor
