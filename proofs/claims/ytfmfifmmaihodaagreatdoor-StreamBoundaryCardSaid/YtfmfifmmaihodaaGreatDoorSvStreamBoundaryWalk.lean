/-
  The walk of StreamBoundary (genSW.py).
-/
import Derived.Test.YtfmfifmmaihodaaGreatDoorSvPkZX
import Derived.Test.YtfmfifmmaihodaaGreatDoorSvPkF
import Derived.Deep.RegionHeld3
import Derived.Deep.DeepCutAuto
set_option linter.unusedSimpArgs false
set_option linter.unusedVariables false
namespace Go.Proofs.YtfmfifmmaihodaaGreatDoor
open Go.RowKit
set_option linter.unusedVariables false

theorem RowIn.take_in {t : IntKind} {w : World} {p : Option Addr} {xs : List Int} (h : RowIn t w p xs) (k : Nat) : RowIn t w p (xs.take k) := by
  intro j hj
  have hj2 : j < k ∧ j < xs.length := by rw [List.length_take] at hj; omega
  obtain ⟨b, off, e, hc⟩ := h j hj2.2
  refine ⟨b, off, e, ?_⟩
  rw [hc]
  congr 2
  simp [List.getD, List.getElem?_take, hj2.1]
theorem RowIn.drop_in {t : IntKind} {w : World} {b off : Nat} {xs : List Int} (h : RowIn t w (some ⟨b, off, none⟩) xs) (k : Nat) : RowIn t w (some ⟨b, off + k, none⟩) (xs.drop k) := by
  intro j hj
  have hj2 : k + j < xs.length := by rw [List.length_drop] at hj; omega
  obtain ⟨b2, off2, e, hc⟩ := h (k + j) hj2
  injection e with e
  injection e with e1 e2 _
  subst e1 e2
  refine ⟨_, _, rfl, ?_⟩
  rw [Nat.add_assoc, hc]
  congr 2
  simp [List.getD]

theorem Ints.caps {w : World} {B n c : Nat} {p : Option Addr} {xs : List Int} (h : Ints w B (.slice p n c) xs) : n ≤ c := row_cap h rfl
theorem Ints.ptr {w : World} {B n c : Nat} {p : Option Addr} {xs : List Int} (h : Ints w B (.slice p n c) xs) (hn : 0 < n) : ∃ g, p = some ⟨g, 0, none⟩ := by
  rcases h.2 with ⟨e, _⟩ | ⟨g, cap, cur, e, _⟩
  · injection e with _ e1 _; omega
  · injection e with e1 _ _; exact ⟨g, e1⟩

set_option maxRecDepth 100000 in
set_option maxHeartbeats 8000000 in
theorem streamBoundary_walk (p0 : Option Addr) (cap0 : Nat) (zs0 : List Int) (p1 : Option Addr) (cap1 : Nat) (zs1 : List Int) (n2 : Int) (w : World) (hin0 : IntsIn w p0 zs0) (hl0 : zs0.length ≤ 17592186043904) (hin1 : IntsIn w p1 zs1) (hl1 : zs1.length ≤ 17592186043904) (hr : Rsv w) :
    Calls Tryz.prog 7 #[.slice p0 zs0.length cap0, .slice p1 zs1.length cap1, .int .i64 n2] w (Gives (.bool true) w) := by
  have HI0 := Lib.hid hin0
  have HL0 := Lib.hid hl0
  have HI1 := Lib.hid hin1
  have HL1 := Lib.hid hl1
  have HR := Lib.hid hr
  clear hin0 hl0 hin1 hl1 hr
  go_enter Tryz.func7, Tryz.ntmps7
  go_wp2_with fail
  refine (tables_any p0 cap0 zs0 _ HI0.out HL0.out).mono ?_
  rintro e w1 ⟨⟨a0, a1, a2, a3, a4, a5, a6, a7, a8, a9, a10, a11⟩, T, rfl, htv, hm, hcap1, hb1⟩
  obtain ⟨pa0, na0, qa0, hsl0⟩ : Slc a0 := htv.cat.slc
  subst hsl0
  obtain ⟨pa1, na1, qa1, hsl1⟩ : Slc a1 := htv.cls.slc
  subst hsl1
  obtain ⟨pa2, na2, qa2, hsl2⟩ : Slc a2 := htv.joi.slc
  subst hsl2
  obtain ⟨pa3, na3, qa3, hsl3⟩ : Slc a3 := htv.bid.slc
  subst hsl3
  obtain ⟨pa4, na4, qa4, hsl4⟩ : Slc a4 := htv.scr.slc
  subst hsl4
  obtain ⟨pa5, na5, qa5, hsl5⟩ : Slc a5 := htv.sta.slc
  subst hsl5
  obtain ⟨pa6, na6, qa6, hsl6⟩ : Slc a6 := htv.ign.slc
  subst hsl6
  obtain ⟨pa7, na7, qa7, hsl7⟩ : Slc a7 := htv.ext.slc
  subst hsl7
  obtain ⟨pa8, na8, qa8, hsl8⟩ : Slc a8 := htv.map.slc
  subst hsl8
  obtain ⟨pa9, na9, qa9, hsl9⟩ : Slc a9 := htv.dec.slc
  subst hsl9
  obtain ⟨pa10, na10, qa10, hsl10⟩ : Slc a10 := htv.exc.slc
  subst hsl10
  obtain ⟨pa11, na11, qa11, hsl11⟩ : Slc a11 := htv.pro.slc
  subst hsl11
  have hba1 : Below w1.heap.size w1 (w1.alloc (.cells (tabCells ⟨.slice pa0 na0 qa0, .slice pa1 na1 qa1, .slice pa2 na2 qa2, .slice pa3 na3 qa3, .slice pa4 na4 qa4, .slice pa5 na5 qa5, .slice pa6 na6 qa6, .slice pa7 na7 qa7, .slice pa8 na8 qa8, .slice pa9 na9 qa9, .slice pa10 na10 qa10, .slice pa11 na11 qa11⟩) 26)) := (Below.refl _ _).alloc (Nat.le_refl _) _
  have HT1 : Hid (TabV (w1.alloc (.cells (tabCells ⟨.slice pa0 na0 qa0, .slice pa1 na1 qa1, .slice pa2 na2 qa2, .slice pa3 na3 qa3, .slice pa4 na4 qa4, .slice pa5 na5 qa5, .slice pa6 na6 qa6, .slice pa7 na7 qa7, .slice pa8 na8 qa8, .slice pa9 na9 qa9, .slice pa10 na10 qa10, .slice pa11 na11 qa11⟩) 26)) ⟨.slice pa0 na0 qa0, .slice pa1 na1 qa1, .slice pa2 na2 qa2, .slice pa3 na3 qa3, .slice pa4 na4 qa4, .slice pa5 na5 qa5, .slice pa6 na6 qa6, .slice pa7 na7 qa7, .slice pa8 na8 qa8, .slice pa9 na9 qa9, .slice pa10 na10 qa10, .slice pa11 na11 qa11⟩ T) := htv.below hba1
  have HX1 : Hid (BoxT (w1.alloc (.cells (tabCells ⟨.slice pa0 na0 qa0, .slice pa1 na1 qa1, .slice pa2 na2 qa2, .slice pa3 na3 qa3, .slice pa4 na4 qa4, .slice pa5 na5 qa5, .slice pa6 na6 qa6, .slice pa7 na7 qa7, .slice pa8 na8 qa8, .slice pa9 na9 qa9, .slice pa10 na10 qa10, .slice pa11 na11 qa11⟩) 26)) w1.heap.size ⟨.slice pa0 na0 qa0, .slice pa1 na1 qa1, .slice pa2 na2 qa2, .slice pa3 na3 qa3, .slice pa4 na4 qa4, .slice pa5 na5 qa5, .slice pa6 na6 qa6, .slice pa7 na7 qa7, .slice pa8 na8 qa8, .slice pa9 na9 qa9, .slice pa10 na10 qa10, .slice pa11 na11 qa11⟩) := BoxT.new _ _ _
  have HB1 : Hid (Below w.heap.size w (w1.alloc (.cells (tabCells ⟨.slice pa0 na0 qa0, .slice pa1 na1 qa1, .slice pa2 na2 qa2, .slice pa3 na3 qa3, .slice pa4 na4 qa4, .slice pa5 na5 qa5, .slice pa6 na6 qa6, .slice pa7 na7 qa7, .slice pa8 na8 qa8, .slice pa9 na9 qa9, .slice pa10 na10 qa10, .slice pa11 na11 qa11⟩) 26))) := hb1.trans (hba1.mono hb1.size)
  have HM := Lib.hid hm
  have HCAP : Hid (CapOf ⟨.slice pa0 na0 qa0, .slice pa1 na1 qa1, .slice pa2 na2 qa2, .slice pa3 na3 qa3, .slice pa4 na4 qa4, .slice pa5 na5 qa5, .slice pa6 na6 qa6, .slice pa7 na7 qa7, .slice pa8 na8 qa8, .slice pa9 na9 qa9, .slice pa10 na10 qa10, .slice pa11 na11 qa11⟩) := hcap1
  clear htv hm hcap1 hb1 hba1
  simp only [tabCells] at HT1 HX1 HB1
  go_wp2_with fail
  generalize (w1.alloc (.cells #[.slice pa0 na0 qa0, .slice pa1 na1 qa1, .slice pa2 na2 qa2, .slice pa3 na3 qa3, .slice pa4 na4 qa4, .slice pa5 na5 qa5, .slice pa6 na6 qa6, .slice pa7 na7 qa7, .slice pa8 na8 qa8, .slice pa9 na9 qa9, .slice pa10 na10 qa10, .slice pa11 na11 qa11] 26)) = W at HT1 HX1 HB1 ⊢
  generalize w1.heap.size = g at HX1 ⊢
  generalize (⟨.slice pa0 na0 qa0, .slice pa1 na1 qa1, .slice pa2 na2 qa2, .slice pa3 na3 qa3, .slice pa4 na4 qa4, .slice pa5 na5 qa5, .slice pa6 na6 qa6, .slice pa7 na7 qa7, .slice pa8 na8 qa8, .slice pa9 na9 qa9, .slice pa10 na10 qa10, .slice pa11 na11 qa11⟩ : TV) = x at HT1 HX1 HCAP
  have HE : Hid (LEnv w g x T W) := ⟨HT1.out, HX1.out, HB1.out⟩
  clear HT1 HX1 HB1
  refine (dense9_any p1 cap1 zs1 _ (HI1.out.below HE.out.bel) HL1.out).mono ?_
  rintro e w3 ⟨xs, v3, rfl, hn3, hs3, hi3, hb3⟩
  obtain ⟨n, hn⟩ : ∃ n, xs.length = n := ⟨_, rfl⟩
  obtain ⟨pin, cin, ein, hii⟩ := hi3.inn
  rw [hn] at hn3 ein
  subst ein
  have hcin := hi3.caps
  have HN := Lib.hid hn
  have HSX := Lib.hid hs3
  have HV : Hid (checkT T = 0) := HM.out.check
  replace HE := Lib.hid (HE.out.step hb3)
  have HX := Lib.hid hii
  have HXP := Lib.hid (fun (h : 0 < n) => hi3.ptr h)
  clear hn hs3 hi3 hb3 hii
  obtain ⟨nn, hnn⟩ : ∃ m, n + 1 = m := ⟨_, rfl⟩
  obtain ⟨j, HJ, hj⟩ := pickN_nm n2 nn (by omega)
  have hw1 : IntKind.i64.wrap ((n : Int) + 1) = (nn : Int) := by rw [IntWalk.i64_in _ (by omega)]; omega
  have hw2 : (n : Int) + 1 = (nn : Int) := by omega
  have hw3 : IntKind.i64.wrap (nn : Int) = (nn : Int) := IntWalk.i64_in _ (by omega)
  go_wp2_with fail
  refine (pickN_at n2 nn j _ (by omega) (by omega) HJ).mono ?_
  rintro e wp ⟨rfl, rfl⟩
  clear HJ hw1 hw2 hw3
  by_cases hjn : j = n
  · have d0 : ((j : Int) == (n : Int)) = true := by simp; omega
    subst hjn
    go_wp2_with fail
    go_quiet (fail)
    generalize hwq : World.drewN w3 _ = W3
    have hq : Below w3.heap.size w3 W3 := by rw [← hwq]; exact drew_ref _ _
    replace HE := Lib.hid (HE.out.step hq)
    clear hwq hq
    go_wp2_with fail
    refine (awake9_any _ (HR.out.below HE.out.bel)).mono ?_
    rintro e wz ⟨rfl, hb⟩
    have HZ := Lib.hid (HE.out.step hb).bel
    clear hb
    go_wp2
    go_ret
    exact ⟨rfl, HZ.out⟩
  · have hlt : j < n := by omega
    have d0 : ((j : Int) == (n : Int)) = false := by simp; omega
    obtain ⟨g0, rfl⟩ := HXP.out (by omega)
    have hkl : j < xs.length := by rw [HN.out]; exact hlt
    obtain ⟨b, off, eb, hck⟩ := HX.out j hkl
    injection eb with eb
    injection eb with eb1 eb2 _
    subst eb1 eb2
    obtain ⟨z, hz⟩ : ∃ c, xs.getD j 0 = c := ⟨_, rfl⟩
    rw [hz, Nat.zero_add] at hck
    obtain ⟨B, hB⟩ : ∃ B, Hid (bndT T z = B) := ⟨_, rfl⟩
    have hj1 : (j : Int) < (n : Int) := by omega
    have hj2 : (0 : Int) ≤ (j : Int) := by omega
    have HZ := Lib.hid hz
    have KA := fun p => layB_cell hck p
    obtain ⟨⟨k0, k1, k2, k3, k4, k5⟩, ⟨k6, k7, k8, k9, k10, k11⟩⟩ := HE.out.box.load
    have K0 := fun p => layB_cell k0 p
    have K1 := fun p => layB_cell k1 p
    have K2 := fun p => layB_cell k2 p
    have K3 := fun p => layB_cell k3 p
    have K4 := fun p => layB_cell k4 p
    have K5 := fun p => layB_cell k5 p
    have K6 := fun p => layB_cell k6 p
    have K7 := fun p => layB_cell k7 p
    have K8 := fun p => layB_cell k8 p
    have K9 := fun p => layB_cell k9 p
    have K10 := fun p => layB_cell k10 p
    have K11 := fun p => layB_cell k11 p
    have cc1 := fun p => layB_call (p := p) fun W2 hW2 => boundary_at x T z B W2 (HE.out.tab.below hW2) ((HR.out.below HE.out.bel).below hW2) hB
    simp only [TV.agg] at cc1
    have C1 := Lib.hid cc1
    clear cc1 k0 k1 k2 k3 k4 k5 k6 k7 k8 k9 k10 k11 hz hck hjn
    go_upto_region 4 with (fail)
    refine wp_region_layB (by kernel_rfl) (by kernel_rfl) ?_
    repeat (go_big_quiet_step (first
      | (go_at_call 15; with_reducible exact C1.out _)))
    refine wpQuiet_nil ?_
    intro _ hw'
    obtain ⟨pq, hw''⟩ := hw'
    subst hw''
    have hbq := layB_below w3 pq
    replace HE := Lib.hid (HE.out.step hbq)
    replace HX := Lib.hid (HX.out.below hbq)
    generalize layB w3 pq = wq at HE HX ⊢
    clear hbq KA K0 K1 K2 K3 K4 K5 K6 K7 K8 K9 K10 K11 C1 d0
    cases B with
    | false =>
      go_wp2_with fail
      refine (awake9_any _ (HR.out.below HE.out.bel)).mono ?_
      rintro e wz ⟨rfl, hb⟩
      have HZZ := Lib.hid (HE.out.step hb).bel
      clear hb
      go_wp2
      go_ret
      exact ⟨rfl, HZZ.out⟩
    | true =>
      have hsp : xs.take j ++ z :: xs.drop (j + 1) = xs := by
        rw [← HZ.out, show xs.getD j 0 = xs[j] by simp [hkl], ← List.drop_eq_getElem_cons hkl, List.take_append_drop]
      have hdr : z :: xs.drop (j + 1) = xs.drop j := by rw [← HZ.out, show xs.getD j 0 = xs[j] by simp [hkl], ← List.drop_eq_getElem_cons hkl]
      have hst : (xs.take j).all scaB = true := List.all_eq_true.2 (fun e he => List.all_eq_true.1 HSX.out e (List.mem_of_mem_take he))
      have hsd : (xs.drop j).all scaB = true := List.all_eq_true.2 (fun e he => List.all_eq_true.1 HSX.out e (List.mem_of_mem_drop he))
      have hl1 : (xs.take j).length = j := by rw [List.length_take, HN.out]; omega
      have hl2 : (xs.drop j).length = n - j := by rw [List.length_drop, HN.out]
      have h1 := nfd_small (T := T) HV.out hst (by omega)
      have h2 := nfd_small (T := T) HV.out hsd (by omega)
      have h3 := nfd_small (T := T) HV.out HSX.out (by rw [HN.out]; omega)
      have hcut := nfc_cut (T := T) (a := xs.take j) (b := xs.drop (j + 1)) (c := z) hB.out h1 (by rw [hdr]; exact h2) (by rw [hsp]; exact h3)
      rw [hsp, hdr] at hcut
      obtain ⟨X, hX⟩ : ∃ L, nfcL T (xs.take j) = L := ⟨_, rfl⟩
      obtain ⟨Y, hY⟩ : ∃ L, nfcL T (xs.drop j) = L := ⟨_, rfl⟩
      obtain ⟨Z, hZ⟩ : ∃ L, nfcL T xs = L := ⟨_, rfl⟩
      have hXl : X.length ≤ 4096 := by rw [← hX]; exact nfcL_len _ _
      have hYl : Y.length ≤ 4096 := by rw [← hY]; exact nfcL_len _ _
      have hZl : Z.length ≤ 4096 := by rw [← hZ]; exact nfcL_len _ _
      have hnx := fun W2 (q1 : TabV W2 x T) q2 => rnfc_at x T (some ⟨g0, 0, none⟩) cin (xs.take j) 0 X W2 q1 HCAP.out q2 (by rw [hl1]; omega) h1 hX
      have hny := fun P3 W2 (q1 : TabV W2 x T) q2 => rnfc_at x T P3 (cin - j) (xs.drop j) 0 Y W2 q1 HCAP.out q2 (by rw [hl2]; omega) h2 hY
      have hnz := fun W2 (q1 : TabV W2 x T) q2 => rnfc_at x T (some ⟨g0, 0, none⟩) cin xs 0 Z W2 q1 HCAP.out q2 (by rw [HN.out]; omega) h3 hZ
      rw [hl1] at hnx
      rw [hl2] at hny
      rw [HN.out] at hnz
      have HNX := Lib.hid hnx
      have HNY := Lib.hid hny
      have HNZ := Lib.hid hnz
      rw [hX, hY, hZ] at hcut
      have HCUT : Hid (([] : List Int) ++ X ++ Y = Z) := by unfold Hid; rw [List.nil_append, hcut]
      obtain ⟨P3, hP3⟩ : ∃ P3, (if cin = j then some (⟨g0, 0, none⟩ : Addr) else some ⟨g0, j, none⟩) = P3 := ⟨_, rfl⟩
      have hdin : ∀ W2, IntsIn W2 (some ⟨g0, 0, none⟩) xs → IntsIn W2 P3 (xs.drop j) := by
        intro W2 hw
        rw [← hP3]
        split
        · intro i hi
          rw [hl2] at hi
          omega
        · have := RowIn.drop_in hw j
          rwa [Nat.zero_add] at this
      have HDIN := Lib.hid hdin
      obtain ⟨nx, hnxl⟩ : ∃ n, X.length = n := ⟨_, rfl⟩
      obtain ⟨ny, hnyl⟩ : ∃ n, Y.length = n := ⟨_, rfl⟩
      rw [hnxl] at hXl
      rw [hnyl] at hYl
      have HNXL := Lib.hid hnxl
      have HNYL := Lib.hid hnyl
      have HZL : Hid (Z.length ≤ 17592186043904) := by unfold Hid; omega
      have hj3 : (j : Int) ≤ (cin : Int) := by omega
      have hj4 : (j : Int) ≤ (n : Int) := by omega
      have hj5 : j ≤ cin := by omega
      have hj6 : j ≤ n := by omega
      have hj7 : (n : Int) ≤ (cin : Int) := by omega
      have t1 : (Z == Z) = true := by simp
      clear hsp hdr hst hsd hl1 hl2 h1 h2 h3 hcut hX hY hZ hnx hny hnz hdin hnxl hnyl hZl HZ hB hkl
      have HD0 := Lib.hid (HE.out.step (drew_one wq))
      have HXD := Lib.hid (HX.out.below (drew_one wq))
      obtain ⟨⟨k0, k1, k2, k3, k4, k5⟩, ⟨k6, k7, k8, k9, k10, k11⟩⟩ := HE.out.box.load
      go_upto_region 6 with (fail)
      go_cut [10, 11] (fun a b wx => ∃ pX cX, a = .slice pX nx cX ∧ b = .int .i64 0 ∧ Hid (LEnv w g x T wx) ∧ Hid (IntsIn wx (some ⟨g0, 0, none⟩) xs) ∧ Hid (IntsIn wx pX X))
      case first =>
        go_region_held3 (boxF g x)
          (first
            | exact HD0.out.box.flat
            | exact (HD0.out.step hb5).box.flat)
          (first
            | (go_at_call 25; (with_reducible refine (HNX.out _ HD0.out.tab (RowIn.take_in HXD.out j)).mono ?_); rintro e w5 ⟨v5, rfl, ho5, hb5⟩; obtain ⟨pX, cX, eX, hiX⟩ := ho5.inn; rw [HNXL.out] at eX; subst eX)
            | fail)
        all_goals
          have hf := HD0.out.step hb5
          have hfx := HXD.out.below hb5
          try (go_wp2_with fail)
          go_meet
          exact ⟨pX, cX, rfl, rfl, hf, hfx, hiX⟩
      case rest =>
        obtain ⟨pX, cX, rfl, rfl, HE, HX, HXX⟩ := hcut
        clear HD0 HXD k0 k1 k2 k3 k4 k5 k6 k7 k8 k9 k10 k11
        generalize wc = W5 at HE HX HXX ⊢
        have HD0 := Lib.hid (HE.out.step (drew_one W5))
        have HXD := Lib.hid (HX.out.below (drew_one W5))
        have HXXD := Lib.hid (HXX.out.below (drew_one W5))
        obtain ⟨⟨k0, k1, k2, k3, k4, k5⟩, ⟨k6, k7, k8, k9, k10, k11⟩⟩ := HE.out.box.load
        go_upto_region 7 with (fail)
        go_cut [12, 13] (fun a b wx => ∃ pY cY, a = .slice pY ny cY ∧ b = .int .i64 0 ∧ Hid (LEnv w g x T wx) ∧ Hid (IntsIn wx (some ⟨g0, 0, none⟩) xs) ∧ Hid (IntsIn wx pX X) ∧ Hid (IntsIn wx pY Y))
        case first =>
          go_region_held3 (boxF g x)
            (first
              | exact HD0.out.box.flat
              | exact (HD0.out.step hb6).box.flat)
            (first
              | (go_at_call 25; (with_reducible refine (HNY.out P3 _ HD0.out.tab (HDIN.out _ HXD.out)).mono ?_); rintro e w6 ⟨v6, rfl, ho6, hb6⟩; obtain ⟨pY, cY, eY, hiY⟩ := ho6.inn; rw [HNYL.out] at eY; subst eY)
              | fail)
          all_goals
            have hf := HD0.out.step hb6
            have hfx := HXD.out.below hb6
            have hfxx := HXXD.out.below hb6
            try (go_wp2_with fail)
            go_meet
            exact ⟨pY, cY, rfl, rfl, hf, hfx, hfxx, hiY⟩
        case rest =>
          obtain ⟨pY, cY, rfl, rfl, HE, HX, HXX, HYY⟩ := hcut
          clear HD0 HXD HXXD k0 k1 k2 k3 k4 k5 k6 k7 k8 k9 k10 k11 hP3
          generalize wc = W6 at HE HX HXX HYY ⊢
          obtain ⟨⟨k0, k1, k2, k3, k4, k5⟩, ⟨k6, k7, k8, k9, k10, k11⟩⟩ := HE.out.box.load
          go_wp2_with fail
          refine (HNZ.out _ HE.out.tab HX.out).mono ?_
          rintro e w7 ⟨v7, rfl, ho7, hb⟩
          replace HE := Lib.hid (HE.out.step hb)
          replace HXX := Lib.hid (HXX.out.below hb)
          replace HYY := Lib.hid (HYY.out.below hb)
          have HO7 := Lib.hid ho7
          clear ho7 hb k0 k1 k2 k3 k4 k5 k6 k7 k8 k9 k10 k11
          go_wp2_with fail
          refine (awake9_any _ (HR.out.below HE.out.bel)).mono ?_
          rintro e w8 ⟨rfl, hb⟩
          replace HE := Lib.hid (HE.out.step hb)
          replace HXX := Lib.hid (HXX.out.below hb)
          replace HYY := Lib.hid (HYY.out.below hb)
          replace HO7 := Lib.hid (HO7.out.below hb)
          clear hb
          have HNIL := Lib.hid (Ints.nil w8 w8.heap.size)
          go_wp2_with (at_builtin; first
            | (refine wpList_append_ints_at (.const (.slice none 0 0)) (.tmp 64) rfl rfl w8.heap.size (.slice none 0 0) [] (by rfl) (by exact HNIL.out) pX nx cX X HNXL.out (by rfl) (by exact HXX.out) (by rw [HNXL.out]; simp; omega) (Nat.le_refl _) ?_; intro v9 w9 ho9 hg9 hv9; have hb9 : Below w8.heap.size w8 w9 := below_appI (Below.refl _ _) HNIL.out (Nat.le_refl _) hg9)
            | (refine wpList_append_ints_at (.tmp 65) (.tmp 66) rfl rfl w8.heap.size v9 ([] ++ X) (by rfl) (by exact ho9) pY ny cY Y HNYL.out (by rfl) (by exact HYY.out.below hb9) (by rw [List.nil_append, HNXL.out, HNYL.out]; omega) hb9.size ?_; intro v10 w10 ho10 hg10 hv10; have hb10 : Below w8.heap.size w8 w10 := below_appI hb9 ho9 (Nat.le_refl _) hg10)
            | fail)
          rw [HCUT.out] at ho10
          have HO10 := Lib.hid ho10
          have HO7b := Lib.hid (HO7.out.below hb10)
          have HEb := Lib.hid (HE.out.step hb10)
          clear ho9 hg9 hv9 hb9 ho10 hg10 hv10 hb10
          refine (same_at v7 v10 Z Z true _ (HO7b.out.inV HZL.out) (HO10.out.inV HZL.out) t1).mono ?_
          rintro e wy ⟨rfl, hb⟩
          have HZZ := Lib.hid (HEb.out.step hb).bel
          clear hb
          go_wp2
          go_ret
          exact ⟨rfl, HZZ.out⟩

end Go.Proofs.YtfmfifmmaihodaaGreatDoor
