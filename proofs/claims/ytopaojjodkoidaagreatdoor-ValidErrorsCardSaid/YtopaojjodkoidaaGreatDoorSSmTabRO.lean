/-
  The references of table: the walk of Check.
-/
import Derived.Test.YtopaojjodkoidaaGreatDoorSSmTabRN
set_option linter.unusedSimpArgs false
set_option linter.unusedVariables false
namespace Go.Proofs.YtopaojjodkoidaaGreatDoor
open Go.RowKit
def elP (T : Tb) (c : Int) : Bool := !hasM T.pro c && (!sylB c && plain T c)
set_option maxRecDepth 100000 in
set_option maxHeartbeats 16000000 in
theorem rcheck_tab (x : TV) (T : Tb) (V : Int) (w : World) (hx : TabV w x T) (hcap : ∀ p n c, x.a9 = .slice p n c → n ≤ c) (hV : Hid (checkT T = V)) :
 Calls Tryz.prog 97 #[x.agg] w (Gives (.int .i64 V) w) := by
 obtain ⟨a0, a1, a2, a3, a4, a5, a6, a7, a8, a9, a10, a11⟩ := x
 obtain ⟨pe, ce, he, hei, hel⟩ := hx.exc
 obtain ⟨ne, hne⟩ : ∃ n, T.exc.length = n := ⟨_, rfl⟩
 rw [hne] at he hel
 simp only at he
 subst he
 obtain ⟨pd, cd, hd, hdi, hdl⟩ := hx.dec
 obtain ⟨nd, hnd⟩ : ∃ n, T.dec.length = n := ⟨_, rfl⟩
 rw [hnd] at hd hdl
 simp only at hd
 subst hd
 have HCAP : Hid (nd ≤ cd) := hcap _ _ _ rfl
 clear hcap
 obtain ⟨pp, cp, hp, hpi, hpl⟩ := hx.pro
 obtain ⟨np, hnp⟩ : ∃ n, T.pro.length = n := ⟨_, rfl⟩
 rw [hnp] at hp hpl
 simp only at hp
 subst hp
 have HE := Lib.hid (Env.new hx)
 have HEI := Lib.hid hei
 have HDI := Lib.hid hdi
 have HPI := Lib.hid hpi
 have HNE := Lib.hid hne
 have HND := Lib.hid hnd
 have HNP := Lib.hid hnp
 obtain ⟨B1, hB1⟩ : ∃ B, Hid (r1 T = B) := ⟨_, rfl⟩
 obtain ⟨B2, hB2⟩ : ∃ B, Hid (r2 T = B) := ⟨_, rfl⟩
 obtain ⟨B3, hB3⟩ : ∃ B, Hid (r3 T = B) := ⟨_, rfl⟩
 obtain ⟨B4, hB4⟩ : ∃ B, Hid (r4 T = B) := ⟨_, rfl⟩
 obtain ⟨B5, hB5⟩ : ∃ B, Hid (r5 T = B) := ⟨_, rfl⟩
 obtain ⟨B6, hB6⟩ : ∃ B, Hid (r6 T = B) := ⟨_, rfl⟩
 clear hx hei hdi hpi hne hnd hnp
 simp only [TV.agg]
 go_enter Tryz.func97, Tryz.ntmps97
 obtain ⟨⟨k0, k1, k2, k3, k4, k5⟩, ⟨k6, k7, k8, k9, k10, k11⟩⟩ := HE.out.box.load
 go_wp2_with fail
 refine (rsmall_at _ T B1 _ HE.out.tab hB1).mono ?_
 rintro e w1 ⟨rfl, hb⟩
 replace HE := Lib.hid (HE.out.step hb)
 clear hb k0 k1 k2 k3 k4 k5 k6 k7 k8 k9 k10 k11
 cases B1 with
 | false => go_wp2; go_ret; exact ⟨by rw [← hV.out, check_1 hB1.out]; rfl, HE.out.bel⟩
 | true =>
  obtain ⟨⟨k0, k1, k2, k3, k4, k5⟩, ⟨k6, k7, k8, k9, k10, k11⟩⟩ := HE.out.box.load
  go_wp2_with fail
  refine (rplaced_at _ T B2 _ HE.out.tab hB1.out hB2).mono ?_
  rintro e w2 ⟨rfl, hb⟩
  replace HE := Lib.hid (HE.out.step hb)
  clear hb k0 k1 k2 k3 k4 k5 k6 k7 k8 k9 k10 k11
  cases B2 with
  | false => go_wp2; go_ret; exact ⟨by rw [← hV.out, check_2 hB1.out hB2.out]; rfl, HE.out.bel⟩
  | true =>
   obtain ⟨⟨k0, k1, k2, k3, k4, k5⟩, ⟨k6, k7, k8, k9, k10, k11⟩⟩ := HE.out.box.load
   go_wp2_with fail
   refine (rranged_at _ T B3 _ HE.out.tab hB3).mono ?_
   rintro e w3 ⟨rfl, hb⟩
   replace HE := Lib.hid (HE.out.step hb)
   clear hb k0 k1 k2 k3 k4 k5 k6 k7 k8 k9 k10 k11
   cases B3 with
   | false => go_wp2; go_ret; exact ⟨by rw [← hV.out, check_3 hB1.out hB2.out hB3.out]; rfl, HE.out.bel⟩
   | true =>
    obtain ⟨⟨k0, k1, k2, k3, k4, k5⟩, ⟨k6, k7, k8, k9, k10, k11⟩⟩ := HE.out.box.load
    go_wp2_with fail
    refine (rsized_at _ T B4 _ HE.out.tab hB4).mono ?_
    rintro e w4 ⟨rfl, hb⟩
    replace HE := Lib.hid (HE.out.step hb)
    clear hb k0 k1 k2 k3 k4 k5 k6 k7 k8 k9 k10 k11
    cases B4 with
    | false => go_wp2; go_ret; exact ⟨by rw [← hV.out, check_4 hB1.out hB2.out hB3.out hB4.out]; rfl, HE.out.bel⟩
    | true =>
     obtain ⟨⟨k0, k1, k2, k3, k4, k5⟩, ⟨k6, k7, k8, k9, k10, k11⟩⟩ := HE.out.box.load
     go_wp2_with fail
     refine (rmapped_at _ T B5 _ HE.out.tab hB2.out hB5).mono ?_
     rintro e w5 ⟨rfl, hb⟩
     replace HE := Lib.hid (HE.out.step hb)
     clear hb k0 k1 k2 k3 k4 k5 k6 k7 k8 k9 k10 k11
     cases B5 with
     | false => go_wp2; go_ret; exact ⟨by rw [← hV.out, check_5 hB1.out hB2.out hB3.out hB4.out hB5.out]; rfl, HE.out.bel⟩
     | true =>
      obtain ⟨⟨k0, k1, k2, k3, k4, k5⟩, ⟨k6, k7, k8, k9, k10, k11⟩⟩ := HE.out.box.load
      go_wp2_with fail
      refine (rfinite_at _ T B6 _ HE.out.tab hB1.out hB4.out hB6).mono ?_
      rintro e w6 ⟨rfl, hb⟩
      replace HE := Lib.hid (HE.out.step hb)
      clear hb k0 k1 k2 k3 k4 k5 k6 k7 k8 k9 k10 k11
      cases B6 with
      | false => go_wp2; go_ret; exact ⟨by rw [← hV.out, check_6 hB1.out hB2.out hB3.out hB4.out hB5.out hB6.out]; rfl, HE.out.bel⟩
      | true =>
       have HC := Lib.hid (cmpH_of hB1.out hB2.out hB3.out hB4.out hB6.out)
       have H18 := Lib.hid (r4_len hB4.out)
       have HND256 : Hid (nd ≤ 256) := by unfold Hid; rw [← HND.out]; exact (few_mp hB1.out).2.2.1
       have HV : Hid (V = if r7 T = false then 7 else if r8 T = false then 8 else if r9 T = false then 9 else 0) := by
        unfold Hid; rw [← hV.out, check_7 hB1.out hB2.out hB3.out hB4.out hB5.out hB6.out]
       obtain ⟨⟨_, _, _, _, _, _⟩, ⟨_, _, _, _, k10, _⟩⟩ := HE.out.box.load
       go_wp2
       clear k10
       go_loopw [40] (fun i wr => ∃ k : Nat, k ≤ ne ∧ i = .int .i64 k ∧ Hid ((T.exc.take k).all (hasM T.dec) = true) ∧ Hid (Env w ⟨a0, a1, a2, a3, a4, a5, a6, a7, a8, .slice pd nd cd, .slice pe ne ce, .slice pp np cp⟩ T wr)) (fun i _ => ne - (intOf i).toNat)
       case atStart => exact ⟨0, Nat.zero_le _, rfl, by simp [Hid], HE⟩
       case round =>
        obtain ⟨k, hk, rfl, hall, he⟩ := hrel
        by_cases hlt : k < ne
        ·have hkl : k < T.exc.length := by rw [HNE.out]; exact hlt
         obtain ⟨b, off, rfl, hc1⟩ := (HEI.out.below he.out.bel) k hkl
         have hst := all_take_snoc (hasM T.dec) T.exc k 0 hkl
         rw [hall.out, Bool.true_and] at hst
         obtain ⟨c, hcc⟩ : ∃ c, T.exc.getD k 0 = c := ⟨_, rfl⟩
         rw [hcc, has_find HC.out] at hst
         rw [hcc] at hc1
         obtain ⟨fl, hfl⟩ : ∃ fl, Hid (findM T.dec c = fl) := ⟨_, rfl⟩
         rw [hfl.out] at hst
         have HST := Lib.hid hst
         have k9 := he.out.at9
         clear hst hcc
         simp only at k9
         go_wp2_with fail
         refine (rfind_at _ T.dec c fl _ he.out.tab.dec hfl).mono ?_
         rintro e w7 ⟨q, m, cq, rfl, hm, _, _, hb2⟩
         have HE7 := Lib.hid (he.out.step hb2)
         have HM := Lib.hid hm
         clear hb2 k9 hm
         cases m with
         | zero =>
          have HF : Hid (V = 7) := by
           have : fl = [] := List.eq_nil_of_length_eq_zero HM.out
           have h7 : r7 T = false := all_of_take _ T.exc (k + 1) (by rw [HST.out, this]; rfl)
           unfold Hid; rw [HV.out, if_pos h7]
          go_wp2
          go_ret
          rw [HF.out]
          exact ⟨rfl, HE7.out.bel⟩
         | succ m =>
          have d0 : (((m + 1 : Nat) : Int) == 0) = false := by simp; omega
          have HN : Hid ((T.exc.take (k + 1)).all (hasM T.dec) = true) := by
           have : fl ≠ [] := fun h => by have := HM.out; rw [h] at this; simp at this
           unfold Hid; rw [HST.out]; exact decide_eq_true this
          go_wp2
          go_roundw
          case rel => exact ⟨k + 1, by omega, by go_num, HN, HE7⟩
          case measure => simp [intOf]; omega
        ·obtain rfl : ne = k := by omega
         have H7 : Hid (r7 T = true) := by
          have := hall.out
          rw [List.take_of_length_le (Nat.le_of_eq HNE.out)] at this
          exact this
         have HV8 : Hid (V = if r8 T = false then 8 else if r9 T = false then 9 else 0) := by
          unfold Hid; rw [HV.out, H7.out, if_neg (by simp)]
         have k9 := he.out.at9
         simp only at k9
         clear hall
         go_wp2
         clear k9
         obtain ⟨wa, rfl⟩ : ∃ wa : World, wa = wr := ⟨_, rfl⟩
         have HEa := Lib.hid he.out
         clear he
         go_loopw [54] (fun i wr => ∃ k : Nat, k ≤ nd ∧ i = .int .i64 k ∧ Hid ((cmpTos T (T.dec.take k)).Nodup) ∧ Hid (Env w ⟨a0, a1, a2, a3, a4, a5, a6, a7, a8, .slice pd nd cd, .slice pe ne ce, .slice pp np cp⟩ T wr)) (fun i _ => nd - (intOf i).toNat)
         case atStart => exact ⟨0, Nat.zero_le _, rfl, by simp [Hid, cmpTos], HEa⟩
         case round =>
          obtain ⟨k, hk, rfl, hall, he⟩ := hrel
          by_cases hlt : k < nd
          ·have hkl : k < T.dec.length := by rw [HND.out]; exact hlt
           obtain ⟨b, off, v, rfl, hc1, hc2, qa, cq, rfl, hi2, hml⟩ := (HDI.out.below he.out.bel) k hkl
           have hfm := findM_at (r2_key hB2.out).2.2.1 k hkl
           obtain ⟨⟨f, y⟩, hs⟩ : ∃ s, T.dec.getD k mp0 = s := ⟨_, rfl⟩
           rw [hs] at hc1 hc2 hi2 hml hfm
           simp only at hc1 hc2 hi2 hml hfm
           obtain ⟨m, hm3⟩ : ∃ m, y.length = m := ⟨_, rfl⟩
           rw [hm3] at hc2 hml
           have HS := Lib.hid hs
           have HFM := Lib.hid hfm
           have HYL := Lib.hid hm3
           have HEm := Lib.hid (he.out.step ((Below.refl _ _).alloc (Nat.le_refl _) (.cells #[.int .i64 f, .slice qa m cq] 47)))
           have HBM := Lib.hid (BoxM.new wr f (.slice qa m cq) 47)
           have HYm := Lib.hid (RowIn.alloc hi2 (.cells #[.int .i64 f, .slice qa m cq] 47))
           have k9 := HEm.out.at9
           simp only at k9
           have hkk0 : (0 : Int) ≤ (k : Int) := by omega
           have hkk1 : (k : Int) ≤ (cd : Int) := by have := HCAP.out; omega
           have hkk2 : (k : Int) < (nd : Int) := by omega
           clear hs hfm hm3 hi2
           go_wp2
           clear k9 hc1 hc2
           obtain ⟨wm, hwm⟩ : ∃ wm : World, wm = wr.alloc (.cells #[.int .i64 f, .slice qa m cq] 47) := ⟨_, rfl⟩
           rw [← hwm] at HEm HBM HYm ⊢
           obtain ⟨q6, hq6⟩ : ∃ q : Nat, q = wr.heap.size := ⟨_, rfl⟩
           rw [← hq6] at HBM
           simp only [← hq6]
           clear hwm hq6 he
           go_loopw [64] (fun i wr => ∃ j : Nat, j ≤ k ∧ i = .int .i64 j ∧ Hid (∀ j', j' < j → clash T (f, y) (T.dec.getD j' mp0) = false) ∧ Hid (Below wm.heap.size wm wr)) (fun i _ => k - (intOf i).toNat)
           case atStart => exact ⟨0, Nat.zero_le _, rfl, fun j' h => absurd h (Nat.not_lt_zero _), Below.refl _ _⟩
           case round =>
            obtain ⟨j, hj, rfl, hno, hbj⟩ := hrel
            by_cases hlt2 : j < k
            ·have hjl : j < T.dec.length := by omega
             have HEj := Lib.hid (HEm.out.step hbj.out)
             obtain ⟨b', off', v', e', hc1, hc2, qb, cqb, rfl, hi3, hml3⟩ := (HDI.out.below HEj.out.bel) j hjl
             injection e' with e'
             injection e' with e1 e2
             subst e1; subst e2
             have hfm2 := findM_at (r2_key hB2.out).2.2.1 j hjl
             obtain ⟨⟨f2, y2⟩, hs2⟩ : ∃ s, T.dec.getD j mp0 = s := ⟨_, rfl⟩
             rw [hs2] at hc1 hc2 hi3 hml3 hfm2
             simp only at hc1 hc2 hi3 hml3 hfm2
             obtain ⟨mb, hm4⟩ : ∃ m, y2.length = m := ⟨_, rfl⟩
             rw [hm4] at hc2 hml3
             obtain ⟨Ca, hCa⟩ : ∃ B, compT T f = B := ⟨_, rfl⟩
             obtain ⟨Cb, hCb⟩ : ∃ B, compT T f2 = B := ⟨_, rfl⟩
             have HS2 := Lib.hid hs2
             have hcl : clash T (f, y) (f2, y2) = (Ca && (Cb && decide (y = y2))) := by simp only [clash, hCa, hCb]
             have HCL := Lib.hid hcl
             have HSTEP : Hid (clash T (f, y) (f2, y2) = false → ∀ j', j' < j + 1 → clash T (f, y) (T.dec.getD j' mp0) = false) := fun h j' hj' => by
              by_cases h2 : j' < j
              ·exact hno.out j' h2
              ·obtain rfl : j' = j := by omega
               rw [HS2.out]; exact h
             have HEW := Lib.hid (HEj.out.step ((Below.refl _ _).alloc (Nat.le_refl _) (.cells #[.int .i64 f2, .slice qb mb cqb] 47)))
             have HBW := Lib.hid (hbj.out.alloc hbj.out.size (.cells #[.int .i64 f2, .slice qb mb cqb] 47))
             have HBM6 := Lib.hid (HBM.out.below HBW.out)
             have HBM8 := Lib.hid (BoxM.new wr f2 (.slice qb mb cqb) 47)
             have HY6 := Lib.hid (HYm.out.below HBW.out)
             have HY8 := Lib.hid (RowIn.alloc hi3 (.cells #[.int .i64 f2, .slice qb mb cqb] 47))
             have HFM2 := Lib.hid hfm2
             have HYL2 := Lib.hid hm4
             have HCA := Lib.hid hCa
             have HCB := Lib.hid hCb
             clear hs2 hfm2 hm4 hi3 hcl hCa hCb
             go_upto_region 25 with (fail)
             clear hc1 hc2
             obtain ⟨W, hW⟩ : ∃ W : World, W = wr.alloc (.cells #[.int .i64 f2, .slice qb mb cqb] 47) := ⟨_, rfl⟩
             rw [← hW] at HEW HBW HBM6 HBM8 HY6 HY8 ⊢
             obtain ⟨q8, hq8⟩ : ∃ q : Nat, q = wr.heap.size := ⟨_, rfl⟩
             rw [← hq8] at HBM8
             simp only [← hq8]
             clear hW hq8
             obtain ⟨⟨k0, k1, k2, k3, k4, k5⟩, ⟨k6, k7, k8, k9, k10, k11⟩⟩ := HEW.out.box.load
             obtain ⟨u0, u1⟩ := HBM6.out
             obtain ⟨z0, z1⟩ := HBM8.out
             simp only at k0 k1 k2 k3 k4 k5 k6 k7 k8 k9 k10 k11
             have K0 := fun p => layB_cell k0 p
             have K1 := fun p => layB_cell k1 p
             have K2 := fun p => layB_cell k2 p
             have K3 := fun p => layB_cell k3 p
             have K4 := fun p => layB_cell k4 p
             have K5 := fun p => layB_cell k5 p
             have K6 := fun p => layB_cell k6 p
             have K7 := fun p => layB_cell k7 p
             have K8 := fun p => layB_cell k8 p
             have K9 := fun p => layB_cell k9 p
             have K10 := fun p => layB_cell k10 p
             have K11 := fun p => layB_cell k11 p
             have K12 := fun p => layB_cell u0 p
             have K13 := fun p => layB_cell u1 p
             have K14 := fun p => layB_cell z0 p
             have K15 := fun p => layB_cell z1 p
             have cma := fun p => layB_call (w := W) (p := p) fun W2 hW2 => rcomp_at T HC.out H18.out 256 _ f W2 (HC.out.dp f) (HEW.out.step hW2).tab
             have cmb := fun p => layB_call (w := W) (p := p) fun W2 hW2 => rcomp_at T HC.out H18.out 256 _ f2 W2 (HC.out.dp f2) (HEW.out.step hW2).tab
             simp only [TV.agg, HCA.out] at cma
             simp only [TV.agg, HCB.out] at cmb
             have CMA := Lib.hid cma
             have CMB := Lib.hid cmb
             clear cma cmb
             cases Ca with
             | false =>
              have HNX : Hid (∀ j', j' < j + 1 → clash T (f, y) (T.dec.getD j' mp0) = false) := HSTEP.out (by rw [HCL.out]; rfl)
              go_wp2_with fail
              refine wp_region_layB (by kernel_rfl) (by kernel_rfl) ?_
              repeat (go_big_quiet_step (first
               | (go_at_call 77; with_reducible exact CMA.out _)
               | (go_at_call 77; with_reducible exact CMB.out _)))
              refine wpQuiet_nil ?_
              intro _ hw'
              obtain ⟨pq, hw''⟩ := hw'
              subst hw''
              have HBq := Lib.hid (layB_below W pq)
              generalize layB W pq = wq at HBq ⊢
              have HBR := Lib.hid (HBW.out.trans (HBq.out.mono HBW.out.size))
              go_wp2
              go_roundw
              case rel => exact ⟨j + 1, by omega, by go_num, HNX, HBR⟩
              case measure => simp [intOf]; omega
             | true =>
              cases Cb with
              | false =>
               have HNX : Hid (∀ j', j' < j + 1 → clash T (f, y) (T.dec.getD j' mp0) = false) := HSTEP.out (by rw [HCL.out]; rfl)
               go_wp2_with fail
               refine wp_region_layB (by kernel_rfl) (by kernel_rfl) ?_
               repeat (go_big_quiet_step (first
                | (go_at_call 77; with_reducible exact CMA.out _)
                | (go_at_call 77; with_reducible exact CMB.out _)))
               refine wpQuiet_nil ?_
               intro _ hw'
               obtain ⟨pq, hw''⟩ := hw'
               subst hw''
               have HBq := Lib.hid (layB_below W pq)
               generalize layB W pq = wq at HBq ⊢
               have HBR := Lib.hid (HBW.out.trans (HBq.out.mono HBW.out.size))
               go_wp2
               go_roundw
               case rel => exact ⟨j + 1, by omega, by go_num, HNX, HBR⟩
               case measure => simp [intOf]; omega
              | true =>
               have hl1 : y.length = 2 := by
                apply Classical.byContradiction
                intro h
                have := compT_not (T := T) (c := f) (by rw [HFM.out]; exact h)
                rw [HCA.out] at this; cases this
               have hl2 : y2.length = 2 := by
                apply Classical.byContradiction
                intro h
                have := compT_not (T := T) (c := f2) (by rw [HFM2.out]; exact h)
                rw [HCB.out] at this; cases this
               obtain ⟨y0, y1, rfl⟩ : ∃ a b, y = [a, b] := by
                match y, hl1 with
                | [a, b], _ => exact ⟨a, b, rfl⟩
               obtain ⟨v0, v1, rfl⟩ : ∃ a b, y2 = [a, b] := by
                match y2, hl2 with
                | [a, b], _ => exact ⟨a, b, rfl⟩
               obtain rfl : 2 = m := HYL.out
               obtain rfl : 2 = mb := HYL2.out
               obtain ⟨ba, oa, rfl, e0⟩ := HY6.out 0 (by simp)
               obtain ⟨ba', oa', e3, e1⟩ := HY6.out 1 (by simp)
               injection e3 with e3
               injection e3 with e4 e5
               subst e4; subst e5
               obtain ⟨bb, ob, rfl, g0⟩ := HY8.out 0 (by simp)
               obtain ⟨bb', ob', e6, g1⟩ := HY8.out 1 (by simp)
               injection e6 with e6
               injection e6 with e7 e8
               subst e7; subst e8
               simp only [List.getD_cons_zero, List.getD_cons_succ, Nat.add_zero] at e0 e1 g0 g1
               have K16 := fun p => layB_cell e0 p
               have K17 := fun p => layB_cell e1 p
               have K18 := fun p => layB_cell g0 p
               have K19 := fun p => layB_cell g1 p
               obtain ⟨D0, hD0⟩ : ∃ D, (y0 == v0) = D := ⟨_, rfl⟩
               obtain ⟨D1, hD1⟩ : ∃ D, (y1 == v1) = D := ⟨_, rfl⟩
               have hyy : decide (([y0, y1] : List Int) = [v0, v1]) = (D0 && D1) := by
                rw [← hD0, ← hD1, Bool.eq_iff_iff]; simp
               have HYY := Lib.hid hyy
               clear hyy hl1 hl2
               cases D0 with
               | false =>
                have HNX : Hid (∀ j', j' < j + 1 → clash T (f, [y0, y1]) (T.dec.getD j' mp0) = false) := HSTEP.out (by rw [HCL.out, HYY.out]; rfl)
                go_wp2_with fail
                refine wp_region_layB (by kernel_rfl) (by kernel_rfl) ?_
                repeat (go_big_quiet_step (first
                 | (go_at_call 77; with_reducible exact CMA.out _)
                 | (go_at_call 77; with_reducible exact CMB.out _)))
                refine wpQuiet_nil ?_
                intro _ hw'
                obtain ⟨pq, hw''⟩ := hw'
                subst hw''
                have HBq := Lib.hid (layB_below W pq)
                generalize layB W pq = wq at HBq ⊢
                have HBR := Lib.hid (HBW.out.trans (HBq.out.mono HBW.out.size))
                go_wp2
                go_roundw
                case rel => exact ⟨j + 1, by omega, by go_num, HNX, HBR⟩
                case measure => simp [intOf]; omega
               | true =>
                cases D1 with
                | false =>
                 have HNX : Hid (∀ j', j' < j + 1 → clash T (f, [y0, y1]) (T.dec.getD j' mp0) = false) := HSTEP.out (by rw [HCL.out, HYY.out]; rfl)
                 go_wp2_with fail
                 refine wp_region_layB (by kernel_rfl) (by kernel_rfl) ?_
                 repeat (go_big_quiet_step (first
                  | (go_at_call 77; with_reducible exact CMA.out _)
                  | (go_at_call 77; with_reducible exact CMB.out _)))
                 refine wpQuiet_nil ?_
                 intro _ hw'
                 obtain ⟨pq, hw''⟩ := hw'
                 subst hw''
                 have HBq := Lib.hid (layB_below W pq)
                 generalize layB W pq = wq at HBq ⊢
                 have HBR := Lib.hid (HBW.out.trans (HBq.out.mono HBW.out.size))
                 go_wp2
                 go_roundw
                 case rel => exact ⟨j + 1, by omega, by go_num, HNX, HBR⟩
                 case measure => simp [intOf]; omega
                | true =>
                 have HF : Hid (V = 8) := by
                  have h8 : r8 T = false := nodup_clash hkl hlt2 (by rw [HS.out, HS2.out, HCL.out, HYY.out]; rfl)
                  unfold Hid; rw [HV8.out, if_pos h8]
                 go_wp2_with fail
                 refine wp_region_layB (by kernel_rfl) (by kernel_rfl) ?_
                 repeat (go_big_quiet_step (first
                  | (go_at_call 77; with_reducible exact CMA.out _)
                  | (go_at_call 77; with_reducible exact CMB.out _)))
                 refine wpQuiet_nil ?_
                 intro _ hw'
                 obtain ⟨pq, hw''⟩ := hw'
                 subst hw''
                 have HEq := Lib.hid (HEW.out.step (layB_below W pq))
                 generalize layB W pq = wq at HEq ⊢
                 go_wp2
                 go_ret
                 rw [HF.out]
                 exact ⟨rfl, HEq.out.bel⟩
            ·obtain rfl : k = j := by omega
             have HT : Hid ((cmpTos T (T.dec.take (k + 1))).Nodup) := nodup_step hkl hall.out (by rw [HS.out]; exact hno.out)
             have HEj := Lib.hid (HEm.out.step hbj.out)
             go_wp2
             go_roundw
             case rel => exact ⟨k + 1, by omega, by go_num, HT, HEj⟩
             case measure => simp [intOf]; omega
          ·obtain rfl : nd = k := by omega
           have H8 : Hid (r8 T = true) := by
            have := hall.out
            rw [List.take_of_length_le (Nat.le_of_eq HND.out)] at this
            exact decide_eq_true this
           have HV9 : Hid (V = if r9 T = false then 9 else 0) := by
            unfold Hid; rw [HV8.out, H8.out, if_neg (by simp)]
           have k11 := he.out.at11
           simp only at k11
           clear hall
           go_wp2
           clear k11
           obtain ⟨wb, rfl⟩ : ∃ wb : World, wb = wr := ⟨_, rfl⟩
           have HEb := Lib.hid he.out
           clear he
           go_loopw [105] (fun i wr => ∃ k : Nat, k ≤ np ∧ i = .int .i64 k ∧ Hid ((T.pro.take k).all (proOk T) = true) ∧ Hid (Env w ⟨a0, a1, a2, a3, a4, a5, a6, a7, a8, .slice pd nd cd, .slice pe ne ce, .slice pp np cp⟩ T wr)) (fun i _ => np - (intOf i).toNat)
           case atStart => exact ⟨0, Nat.zero_le _, rfl, by simp [Hid], HEb⟩
           case round =>
            obtain ⟨k, hk, rfl, hall, he⟩ := hrel
            by_cases hlt : k < np
            ·have hkl : k < T.pro.length := by rw [HNP.out]; exact hlt
             obtain ⟨b, off, v, rfl, hc1, hc2, qa, cq, rfl, hi2, hml⟩ := (HPI.out.below he.out.bel) k hkl
             have hst := all_take_snoc (proOk T) T.pro k mp0 hkl
             rw [hall.out, Bool.true_and] at hst
             obtain ⟨⟨f, y⟩, hs⟩ : ∃ s, T.pro.getD k mp0 = s := ⟨_, rfl⟩
             rw [hs] at hc1 hc2 hst hi2 hml
             simp only at hc1 hc2 hi2 hml
             have hpk : proOk T (f, y) = (plain T f && y.all (elP T)) := rfl
             rw [hpk] at hst
             obtain ⟨m, hm3⟩ : ∃ m, y.length = m := ⟨_, rfl⟩
             rw [hm3] at hc2 hml
             have HST := Lib.hid hst
             have HYL := Lib.hid hm3
             have HBAD : Hid ((plain T f && y.all (elP T)) = false → V = 9) := fun h => by
              have h9 : r9 T = false := all_of_take _ T.pro (k + 1) (by rw [HST.out]; exact h)
              rw [HV9.out, if_pos h9]
             obtain ⟨G, hG⟩ : ∃ G, Hid (ignT T f = G) := ⟨_, rfl⟩
             obtain ⟨fd, hfd⟩ : ∃ l, Hid (findM T.dec f = l) := ⟨_, rfl⟩
             have hpl : plain T f = (!decide (fd ≠ []) && !G) := by unfold plain; rw [has_find HC.out, hfd.out, hG.out]
             have HPL := Lib.hid hpl
             have HEb := Lib.hid (he.out.step ((Below.refl _ _).alloc (Nat.le_refl _) (.cells #[.int .i64 f, .slice qa m cq] 47)))
             have HBM := Lib.hid (BoxM.new wr f (.slice qa m cq) 47)
             have HY1 := Lib.hid (RowIn.alloc hi2 (.cells #[.int .i64 f, .slice qa m cq] 47))
             have k9 := HEb.out.at9
             simp only at k9
             clear hs hst hpk hm3 hi2 hpl
             go_wp2_with fail
             refine (rfind_at _ T.dec f fd _ HEb.out.tab.dec hfd).mono ?_
             rintro e w9 ⟨q, n9, cq9, rfl, hm9, _, _, hb9⟩
             have HE9 := Lib.hid (HEb.out.step hb9)
             have HBM9 := Lib.hid (HBM.out.below hb9)
             have HY9 := Lib.hid (HY1.out.below hb9)
             have HM9 := Lib.hid hm9
             clear hb9 k9 hc1 hc2 hm9
             obtain ⟨c1, c2⟩ := HBM9.out
             cases n9 with
             | succ n9 =>
              have dz : decide ((0 : Int) < ((n9 + 1 : Nat) : Int)) = true := decide_eq_true (by omega)
              have HF : Hid (V = 9) := HBAD.out (by
               have : fd ≠ [] := fun h => by have := HM9.out; rw [h] at this; simp at this
               rw [HPL.out, decide_eq_true this]; rfl)
              go_wp2
              go_ret
              rw [HF.out]
              exact ⟨rfl, HE9.out.bel⟩
             | zero =>
              have HD0 : Hid (fd = []) := List.eq_nil_of_length_eq_zero HM9.out
              obtain ⟨⟨k0, k1, k2, k3, k4, k5⟩, ⟨k6, k7, k8, k9, k10, k11⟩⟩ := HE9.out.box.load
              go_wp2_with fail
              refine (rign_at _ T f G _ HE9.out.tab (r3_ign hB3.out) hG).mono ?_
              rintro e w10 ⟨rfl, hb10⟩
              have HE10 := Lib.hid (HE9.out.step hb10)
              have HBM10 := Lib.hid (HBM9.out.below hb10)
              have HY10 := Lib.hid (HY9.out.below hb10)
              clear hb10 k0 k1 k2 k3 k4 k5 k6 k7 k8 k9 k10 k11 c1 c2
              cases G with
              | true =>
               have HF : Hid (V = 9) := HBAD.out (by rw [HPL.out]; simp)
               go_wp2
               go_ret
               rw [HF.out]
               exact ⟨rfl, HE10.out.bel⟩
              | false =>
               have HPT : Hid (plain T f = true) := by unfold Hid; rw [HPL.out, HD0.out]; rfl
               have HBAD2 : Hid (y.all (elP T) = false → V = 9) := fun h => HBAD.out (by rw [h, Bool.and_false])
               obtain ⟨c1, c2⟩ := HBM10.out
               go_wp2
               clear c1 c2
               obtain ⟨wc, rfl⟩ : ∃ wc : World, wc = w10 := ⟨_, rfl⟩
               go_loopw [125] (fun i wr => ∃ j : Nat, j ≤ m ∧ i = .int .i64 j ∧ Hid ((y.take j).all (elP T) = true) ∧ Hid (Env w ⟨a0, a1, a2, a3, a4, a5, a6, a7, a8, .slice pd nd cd, .slice pe ne ce, .slice (some ⟨b, off, none⟩) np cp⟩ T wr) ∧ Hid (IntsIn wr qa y)) (fun i _ => m - (intOf i).toNat)
               case atStart => exact ⟨0, Nat.zero_le _, rfl, by simp [Hid], HE10, HY10⟩
               case round =>
                obtain ⟨j, hj, rfl, hall2, he2, hy2⟩ := hrel
                by_cases hlt2 : j < m
                ·have hjl : j < y.length := by rw [HYL.out]; exact hlt2
                 obtain ⟨b3, off3, rfl, hc3⟩ := hy2.out j hjl
                 have hs2 := all_take_snoc (elP T) y j 0 hjl
                 rw [hall2.out, Bool.true_and] at hs2
                 obtain ⟨c, hcc⟩ : ∃ c, y.getD j 0 = c := ⟨_, rfl⟩
                 rw [hcc] at hc3 hs2
                 obtain ⟨G, hG2⟩ : ∃ G, Hid (ignT T c = G) := ⟨_, rfl⟩
                 obtain ⟨S, hS⟩ : ∃ S, Hid (sylB c = S) := ⟨_, rfl⟩
                 obtain ⟨fe, hfe⟩ : ∃ l, Hid (findM T.dec c = l) := ⟨_, rfl⟩
                 obtain ⟨fp, hfp⟩ : ∃ l, Hid (findM T.pro c = l) := ⟨_, rfl⟩
                 have hel : elP T c = (!decide (fp ≠ []) && (!S && (!decide (fe ≠ []) && !G))) := by
                  unfold elP plain; rw [has_pro hB4.out, has_find HC.out, hfe.out, hfp.out, hS.out, hG2.out]
                 rw [hel] at hs2
                 have HS2 := Lib.hid hs2
                 have HBAD3 : Hid ((!decide (fp ≠ []) && (!S && (!decide (fe ≠ []) && !G))) = false → V = 9) := fun h => HBAD2.out (all_of_take _ y (j + 1) (by rw [HS2.out]; exact h))
                 have k9 := he2.out.at9
                 simp only at k9
                 clear hcc hs2 hel
                 go_wp2_with fail
                 refine (rfind_at _ T.dec c fe _ he2.out.tab.dec hfe).mono ?_
                 rintro e w11 ⟨q1, n11, cq11, rfl, hm11, _, _, hb11⟩
                 have HE11 := Lib.hid (he2.out.step hb11)
                 have HY11 := Lib.hid (hy2.out.below hb11)
                 have HM11 := Lib.hid hm11
                 clear hb11 k9 hc3 hm11
                 cases n11 with
                 | succ n11 =>
                  have dz : decide ((0 : Int) < ((n11 + 1 : Nat) : Int)) = true := decide_eq_true (by omega)
                  have HF : Hid (V = 9) := HBAD3.out (by
                   have : fe ≠ [] := fun h => by have := HM11.out; rw [h] at this; simp at this
                   rw [decide_eq_true this]; simp)
                  go_wp2
                  go_ret
                  rw [HF.out]
                  exact ⟨rfl, HE11.out.bel⟩
                 | zero =>
                  have HD1 : Hid (fe = []) := List.eq_nil_of_length_eq_zero HM11.out
                  obtain ⟨⟨k0, k1, k2, k3, k4, k5⟩, ⟨k6, k7, k8, k9, k10, k11⟩⟩ := HE11.out.box.load
                  go_wp2_with fail
                  refine (rign_at _ T c G _ HE11.out.tab (r3_ign hB3.out) hG2).mono ?_
                  rintro e w12 ⟨rfl, hb12⟩
                  have HE12 := Lib.hid (HE11.out.step hb12)
                  have HY12 := Lib.hid (HY11.out.below hb12)
                  clear hb12 k0 k1 k2 k3 k4 k5 k6 k7 k8 k9 k10 k11
                  cases G with
                  | true =>
                   have HF : Hid (V = 9) := HBAD3.out (by simp)
                   go_wp2
                   go_ret
                   rw [HF.out]
                   exact ⟨rfl, HE12.out.bel⟩
                  | false =>
                   go_wp2_with fail
                   refine (rsyl_at c S _ hS).mono ?_
                   rintro e w13 ⟨rfl, rfl⟩
                   cases S with
                   | true =>
                    have HF : Hid (V = 9) := HBAD3.out (by simp)
                    go_wp2
                    go_ret
                    rw [HF.out]
                    exact ⟨rfl, HE12.out.bel⟩
                   | false =>
                    have k11 := HE12.out.at11
                    simp only at k11
                    go_wp2_with fail
                    refine (rfind_at _ T.pro c fp _ HE12.out.tab.pro hfp).mono ?_
                    rintro e w14 ⟨q2, n14, cq14, rfl, hm14, _, _, hb14⟩
                    have HE14 := Lib.hid (HE12.out.step hb14)
                    have HY14 := Lib.hid (HY12.out.below hb14)
                    have HM14 := Lib.hid hm14
                    clear hb14 k11 hm14
                    cases n14 with
                    | succ n14 =>
                     have dz : decide ((0 : Int) < ((n14 + 1 : Nat) : Int)) = true := decide_eq_true (by omega)
                     have HF : Hid (V = 9) := HBAD3.out (by
                      have : fp ≠ [] := fun h => by have := HM14.out; rw [h] at this; simp at this
                      rw [decide_eq_true this]; simp)
                     go_wp2
                     go_ret
                     rw [HF.out]
                     exact ⟨rfl, HE14.out.bel⟩
                    | zero =>
                     have HT : Hid ((y.take (j + 1)).all (elP T) = true) := by
                      have : fp = [] := List.eq_nil_of_length_eq_zero HM14.out
                      unfold Hid; rw [HS2.out, this, HD1.out]; rfl
                     go_wp2
                     go_roundw
                     case rel => exact ⟨j + 1, by omega, by go_num, HT, HE14, HY14⟩
                     case measure => simp [intOf]; omega
                ·obtain rfl : m = j := by omega
                 have HT : Hid ((T.pro.take (k + 1)).all (proOk T) = true) := by
                  have h := hall2.out
                  rw [List.take_of_length_le (Nat.le_of_eq HYL.out)] at h
                  unfold Hid; rw [HST.out, HPT.out, h]; rfl
                 go_wp2
                 go_roundw
                 case rel => exact ⟨k + 1, by omega, by go_num, HT, he2⟩
                 case measure => simp [intOf]; omega
            ·obtain rfl : np = k := by omega
             have H9 : Hid (r9 T = true) := by
              have := hall.out
              rw [List.take_of_length_le (Nat.le_of_eq HNP.out)] at this
              exact this
             have HF : Hid (V = 0) := by unfold Hid; rw [HV9.out, H9.out, if_neg (by simp)]
             go_wp2
             go_ret
             rw [HF.out]
             exact ⟨rfl, he.out.bel⟩
end Go.Proofs.YtopaojjodkoidaaGreatDoor
