/-
  The references of table: rule 5.
-/
import Derived.Test.YtiafhifbgdkgaaaGreatDoorQTabRG
import Derived.Test.YtiafhifbgdkgaaaGreatDoorQTabL
set_option linter.unusedSimpArgs false
set_option linter.unusedVariables false
namespace Go.Proofs.YtiafhifbgdkgaaaGreatDoor
open Go.RowKit
set_option linter.unusedVariables false

set_option maxRecDepth 100000 in
set_option maxHeartbeats 8000000 in
theorem rmapped_any (x : TV) (T : Tb) (w : World) (hx : TabV w x T) (hso : spOk T.sta = true) :
    Calls Tryz.prog 106 #[x.agg] w (Gives (.bool (r5 T)) w) := by
  obtain ⟨a0, a1, a2, a3, a4, a5, a6, a7, a8, a9, a10, a11⟩ := x
  obtain ⟨pm, cm, hm, hmin, hml⟩ := hx.map
  obtain ⟨n, hn⟩ : ∃ n, T.map.length = n := ⟨_, rfl⟩
  rw [hn] at hm hml
  simp only at hm
  subst hm
  obtain ⟨ps, cs, hs, hsin, hsl⟩ := hx.sta
  obtain ⟨ns, hns⟩ : ∃ n, T.sta.length = n := ⟨_, rfl⟩
  rw [hns] at hs hsl
  simp only at hs
  subst hs
  have HE := Lib.hid (Env.new hx)
  have HSO := Lib.hid hso
  have hasc : ascB 0 T.sta = true := by simp only [spOk, Bool.and_eq_true] at hso; exact hso.1
  have HA := Lib.hid hasc
  have HN := Lib.hid hn
  have HNS := Lib.hid hns
  have HMI := Lib.hid hmin
  have HSI := Lib.hid hsin
  obtain ⟨C, hC⟩ : ∃ C, Hid (cntV 3 T.sta = C) := ⟨_, rfl⟩
  have HR : Hid (T.map.all (mapOk T) = true → C = n → r5 T = true) := fun h e => by
    unfold r5; rw [h, hC.out, hn, Bool.true_and]; exact decide_eq_true e
  have HF : Hid (T.map.all (mapOk T) = false → r5 T = false) := fun h => by unfold r5; rw [h]; rfl
  have HFC : Hid (C ≠ n → r5 T = false) := fun h => by unfold r5; rw [hC.out, hn, decide_eq_false h, Bool.and_false]
  clear hx hso hasc hn hns hmin hsin
  have hbx := HE.out.box
  simp only [BoxT] at hbx
  obtain ⟨⟨_, _, _, _, _, k5⟩, ⟨_, _, _, _, _, _⟩⟩ := hbx
  simp only [TV.agg]
  go_enter Tryz.func106, Tryz.ntmps106
  go_wp2
  go_loopw [3, 14] (fun v i wr => ∃ k : Nat, k ≤ ns ∧ i = .int .i64 k ∧ (∃ z : Int, 0 ≤ z ∧ z ≤ 1114112 ∧ v = .int .i64 z ∧ Hid (cntV 3 (T.sta.take k) = z)) ∧ Hid (Env w ⟨a0, a1, a2, a3, a4, .slice ps ns cs, a6, a7, .slice pm n cm, a9, a10, a11⟩ T wr)) (fun _ i _ => ns - (intOf i).toNat)
  case atStart => exact ⟨0, Nat.zero_le _, rfl, ⟨0, by omega, by omega, rfl, rfl⟩, HE⟩
  case round =>
    obtain ⟨k, hk, rfl, ⟨z, hz0, hz1, rfl, hz⟩, he⟩ := hrel
    by_cases hlt : k < ns
    · have hkl : k < T.sta.length := by rw [HNS.out]; exact hlt
      obtain ⟨b, off, rfl, hc1, hc2, hc3⟩ := (HSI.out.below he.out.bel) k hkl
      obtain ⟨a1', a2', a3'⟩ := asc_getD HA.out k hkl
      have hbd := cntV_bd (v := 3) (asc_take (k + 1) HA.out)
      have hle := ends_le (asc_take (k + 1) HA.out) (by omega)
      have hsn : cntV 3 (T.sta.take (k + 1)) = z + if (T.sta.getD k sp0).2.2 = 3 then (T.sta.getD k sp0).2.1 - (T.sta.getD k sp0).1 + 1 else 0 := by rw [take_snoc_sp T.sta k hkl, cntV_snoc, hz.out]
      obtain ⟨⟨f, t, v⟩, hs⟩ : ∃ s, T.sta.getD k sp0 = s := ⟨_, rfl⟩
      rw [hs] at hc1 hc2 hc3 a1' a2' a3' hsn
      simp only at hc1 hc2 hc3 a1' a2' a3' hsn
      have HEb := Lib.hid (he.out.step ((Below.refl _ _).alloc (Nat.le_refl _) (.cells #[.int .i64 f, .int .i64 t, .int .i64 v] 47)))
      by_cases hvx : v = 3
      · have hb1 : (v == 3) = true := by simp [hvx]
        rw [if_pos hvx] at hsn
        have hb0 : z + (t - f + 1) ≤ 1114112 := by omega
        have HC := Lib.hid hsn
        clear hs hsn hbd hle hvx k5
        go_wp2
        go_roundw
        case rel => exact ⟨k + 1, by omega, by go_num, ⟨z + (t - f + 1), by omega, hb0, by go_num, HC⟩, HEb⟩
        case measure => simp [intOf]; omega
      · have hb1 : (v == 3) = false := by simp [hvx]
        rw [if_neg hvx, Int.add_zero] at hsn
        have HC := Lib.hid hsn
        clear hs hsn hbd hle hvx k5
        go_wp2
        go_roundw
        case rel => exact ⟨k + 1, by omega, by go_num, ⟨z, hz0, hz1, rfl, HC⟩, HEb⟩
        case measure => simp [intOf]; omega
    · obtain rfl : ns = k := by omega
      have HZ : Hid (C = z) := by
        unfold Hid; rw [← hz.out, ← hC.out, List.take_of_length_le (Nat.le_of_eq HNS.out)]
      have hbx := he.out.box
      simp only [BoxT] at hbx
      obtain ⟨⟨_, _, _, _, _, _⟩, ⟨_, _, k8, _, _, _⟩⟩ := hbx
      by_cases hzn : z = n
      · have dz : (z != (n : Int)) = false := by simp [hzn]
        have HRR : Hid (T.map.all (mapOk T) = true → r5 T = true) := fun h => HR.out h (HZ.out.trans hzn)
        clear hzn HR k5
        go_wp2
        obtain ⟨wa, rfl⟩ : ∃ wa : World, wa = wr := ⟨_, rfl⟩
        have HEa := Lib.hid he.out
        clear he k8
        go_loopw [38] (fun i wr => ∃ k : Nat, k ≤ n ∧ i = .int .i64 k ∧ Hid ((T.map.take k).all (mapOk T) = true) ∧ Hid (Env w ⟨a0, a1, a2, a3, a4, .slice ps ns cs, a6, a7, .slice pm n cm, a9, a10, a11⟩ T wr)) (fun i _ => n - (intOf i).toNat)
        case atStart => exact ⟨0, Nat.zero_le _, rfl, by simp [Hid], HEa⟩
        case round =>
          obtain ⟨k, hk, rfl, hall, he⟩ := hrel
          by_cases hlt : k < n
          · have hkl : k < T.map.length := by rw [HN.out]; exact hlt
            obtain ⟨b, off, v, rfl, hc1, hc2, qa, cq, rfl, hi2, hm2⟩ := (HMI.out.below he.out.bel) k hkl
            have hsn := all_take_snoc (mapOk T) T.map k mp0 hkl
            rw [hall.out, Bool.true_and] at hsn
            have hno : mapOk T (T.map.getD k mp0) = false → r5 T = false := fun h => HF.out (all_of_take _ T.map (k + 1) (by rw [hsn, h]))
            obtain ⟨⟨f, y⟩, hs⟩ : ∃ s, T.map.getD k mp0 = s := ⟨_, rfl⟩
            rw [hs] at hc1 hc2 hsn hno hi2 hm2
            simp only at hc1 hc2 hsn hno hi2 hm2
            rw [mapOk_parts] at hsn hno
            obtain ⟨m, hm3⟩ : ∃ m, y.length = m := ⟨_, rfl⟩
            rw [hm3] at hc2 hm2
            have HSN := Lib.hid hsn
            have HNO := Lib.hid hno
            have HY := Lib.hid hi2
            have HYL := Lib.hid hm3
            have HEb := Lib.hid (he.out.step ((Below.refl _ _).alloc (Nat.le_refl _) (.cells #[.int .i64 f, .slice qa m cq] 54)))
            have HBM := Lib.hid (BoxM.new wr f (.slice qa m cq) 54)
            have HY1 := Lib.hid (RowIn.alloc hi2 (.cells #[.int .i64 f, .slice qa m cq] 54))
            obtain ⟨z, hz⟩ : ∃ z, Hid (staT T f = z) := ⟨_, rfl⟩
            clear hs hsn hno hi2 hm3
            have hbx := HEb.out.box
            simp only [BoxT] at hbx
            obtain ⟨⟨k0, k1, k2, k3, k4, k5⟩, ⟨k6, k7, k8, k9, k10, k11⟩⟩ := hbx
            go_wp2_with fail
            refine (rstatus_at _ T f z _ HEb.out.tab HSO.out hz).mono ?_
            rintro e w2 ⟨rfl, hb2⟩
            have HE2 := Lib.hid (HEb.out.step hb2)
            have HBM2 := Lib.hid (HBM.out.below hb2)
            have HY2 := Lib.hid (HY1.out.below hb2)
            clear hb2 k0 k1 k2 k3 k4 k5 k6 k7 k8 k9 k10 k11 hc1 hc2
            by_cases hz3 : z = 3
            · have d3 : (z != 3) = false := by simp [hz3]
              have HZ : Hid (staT T f = 3) := hz.out.trans hz3
              have hbm := HBM2.out
              simp only [BoxM] at hbm
              obtain ⟨c1, c2⟩ := hbm
              clear hz3
              go_wp2
              obtain ⟨wo, rfl⟩ : ∃ wo : World, wo = w2 := ⟨_, rfl⟩
              go_loopw [50] (fun i wr2 => ∃ j : Nat, j ≤ m ∧ i = .int .i64 j ∧ Hid ((y.take j).all (okSta T) = true) ∧ Hid (Env w ⟨a0, a1, a2, a3, a4, .slice ps ns cs, a6, a7, .slice (some ⟨b, off, none⟩) n cm, a9, a10, a11⟩ T wr2) ∧ Hid (IntsIn wr2 qa y)) (fun i _ => m - (intOf i).toNat)
              case atStart => exact ⟨0, Nat.zero_le _, rfl, by simp [Hid], HE2, HY2⟩
              case round =>
                obtain ⟨j, hj, rfl, hall2, he2, hy2⟩ := hrel
                clear c1 c2
                by_cases hlt2 : j < m
                · have hjl : j < y.length := by rw [HYL.out]; exact hlt2
                  obtain ⟨b3, off3, rfl, hc3⟩ := hy2.out j hjl
                  have hs2 := all_take_snoc (okSta T) y j 0 hjl
                  rw [hall2.out, Bool.true_and] at hs2
                  obtain ⟨c, hcc⟩ : ∃ c, y.getD j 0 = c := ⟨_, rfl⟩
                  rw [hcc] at hc3 hs2
                  have HS2 := Lib.hid hs2
                  obtain ⟨u, hu⟩ : ∃ u, Hid (staT T c = u) := ⟨_, rfl⟩
                  have hok : okSta T c = (decide (u = 1) || decide (u = 4)) := by rw [okSta, hu.out]
                  have HOK := Lib.hid hok
                  have hbx := he2.out.box
                  simp only [BoxT] at hbx
                  obtain ⟨⟨k0, k1, k2, k3, k4, k5⟩, ⟨k6, k7, k8, k9, k10, k11⟩⟩ := hbx
                  clear hcc hs2 hok
                  go_wp2_with fail
                  refine (rstatus_at _ T c u _ he2.out.tab HSO.out hu).mono ?_
                  rintro e w3 ⟨rfl, hb3⟩
                  have HE3 := Lib.hid (he2.out.step hb3)
                  have HY3 := Lib.hid (hy2.out.below hb3)
                  clear hb3 k0 k1 k2 k3 k4 k5 k6 k7 k8 k9 k10 k11 hc3
                  by_cases h1 : u = 1
                  · have d1 : (u != 1) = false := by simp [h1]
                    have HT : Hid ((y.take (j + 1)).all (okSta T) = true) := by unfold Hid; rw [HS2.out, HOK.out, h1]; rfl
                    clear h1
                    go_wp2
                    go_roundw
                    case rel => exact ⟨j + 1, by omega, by go_num, HT, HE3, HY3⟩
                    case measure => simp [intOf]; omega
                  · have d1 : (u != 1) = true := by simp [h1]
                    by_cases h4 : u = 4
                    · have d4 : (u != 4) = false := by simp [h4]
                      have HT : Hid ((y.take (j + 1)).all (okSta T) = true) := by unfold Hid; rw [HS2.out, HOK.out, h4]; rfl
                      clear h1 h4
                      go_wp2
                      go_roundw
                      case rel => exact ⟨j + 1, by omega, by go_num, HT, HE3, HY3⟩
                      case measure => simp [intOf]; omega
                    · have d4 : (u != 4) = true := by simp [h4]
                      have HFF : Hid (r5 T = false) := HNO.out (by
                        rw [all_of_take (okSta T) y (j + 1) (by rw [HS2.out, HOK.out]; simp [h1, h4]), Bool.and_false])
                      clear h1 h4
                      go_wp2
                      go_ret
                      rw [HFF.out]
                      exact ⟨rfl, HE3.out.bel⟩
                · obtain rfl : j = m := by omega
                  have HT : Hid ((T.map.take (k + 1)).all (mapOk T) = true) := by
                    have h := hall2.out
                    rw [List.take_of_length_le (Nat.le_of_eq HYL.out)] at h
                    unfold Hid; rw [HSN.out, HZ.out, h]; rfl
                  go_wp2
                  go_roundw
                  case rel => exact ⟨k + 1, by omega, by go_num, HT, he2⟩
                  case measure => simp [intOf]; omega
            · have d3 : (z != 3) = true := by simp [hz3]
              have HFF : Hid (r5 T = false) := HNO.out (by rw [hz.out, decide_eq_false hz3]; rfl)
              clear hz3
              go_wp2
              go_ret
              rw [HFF.out]
              exact ⟨rfl, HE2.out.bel⟩
          · obtain rfl : k = n := by omega
            have HT : Hid (T.map.all (mapOk T) = true) := by
              have := hall.out
              rwa [List.take_of_length_le (Nat.le_of_eq HN.out)] at this
            have HRX := Lib.hid (HRR.out HT.out)
            go_wp2
            go_ret
            rw [HRX.out]
            exact ⟨rfl, he.out.bel⟩
      · have dz : (z != (n : Int)) = true := by simp [hzn]
        have HFF := Lib.hid (HFC.out (by rw [HZ.out]; exact hzn))
        clear hzn k5
        go_wp2
        go_ret
        rw [HFF.out]
        exact ⟨rfl, he.out.bel⟩

end Go.Proofs.YtiafhifbgdkgaaaGreatDoor
