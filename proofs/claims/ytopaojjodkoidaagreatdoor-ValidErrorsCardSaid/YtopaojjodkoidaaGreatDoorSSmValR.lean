/-
  valid: contracts of the references Hyphens, CheckLabel (genVD.py).
-/
import Derived.Test.YtopaojjodkoidaaGreatDoorSSmPkZZO
import Derived.Test.YtopaojjodkoidaaGreatDoorSSmCtxR
import Derived.Test.YtopaojjodkoidaaGreatDoorSSmPkZZJ
import Derived.Test.YtopaojjodkoidaaGreatDoorSSmPkZU
import Derived.Test.YtopaojjodkoidaaGreatDoorSSmPkZZR
import Derived.BigRegion
set_option linter.unusedSimpArgs false
set_option linter.unusedVariables false
namespace Go.Proofs.YtopaojjodkoidaaGreatDoor
open Go.RowKit
set_option maxRecDepth 100000 in
set_option maxHeartbeats 4000000 in
theorem rhyph_at (p : Option Addr) (n cap : Nat) (zs : List Int) (B : Bool) (w : World) (hin : IntsIn w p zs) (HN : Hid (zs.length = n)) (hl : n ≤ 17592186043904) (hB : Hid (hypB zs = B)) :
 Calls Tryz.prog 16 #[.slice p n cap] w (Gives (.bool B) w) := by
 have HI := Lib.hid hin
 have HB := Lib.hid (Below.refl w.heap.size w)
 obtain ⟨a0, Ha0⟩ : ∃ a, Hid (atC zs 0 = a) := ⟨_, rfl⟩
 obtain ⟨a1, Ha1⟩ : ∃ a, Hid (atC zs ((n : Int) - 1) = a) := ⟨_, rfl⟩
 obtain ⟨a2, Ha2⟩ : ∃ a, Hid (atC zs 2 = a) := ⟨_, rfl⟩
 obtain ⟨a3, Ha3⟩ : ∃ a, Hid (atC zs 3 = a) := ⟨_, rfl⟩
 have HBB : Hid (B = (decide (a0 ≠ 45) && decide (a1 ≠ 45) && !(decide (a2 = 45) && decide (a3 = 45)))) := by
  unfold Hid; rw [← hB.out]; unfold hypB; rw [HN.out, Ha0.out, Ha1.out, Ha2.out, Ha3.out]
 have s1 : IntKind.i64.wrap ((n : Int) - 1) = (n : Int) - 1 := IntWalk.i64_in _ (by omega)
 clear hin hB
 go_enter Tryz.func16, Tryz.ntmps16
 go_wp2_with fail
 refine (rat_at _ n cap zs 0 a0 _ (HI.out.below HB.out) HN Ha0).mono ?_
 rintro e w1 ⟨rfl, hb⟩
 replace HB := Lib.hid (HB.out.trans (hb.mono HB.out.size))
 clear hb
 by_cases h0 : a0 = 45
 ·have d0 : (a0 != 45) = false := by simp [h0]
  obtain rfl : B = false := by rw [HBB.out, decide_eq_false (fun h => h h0)]; rfl
  clear h0 HBB
  go_wp2
  go_ret
  exact ⟨rfl, HB.out⟩
 ·have d0 : (a0 != 45) = true := by simp [h0]
  go_wp2_with fail
  refine (rat_at _ n cap zs ((n : Int) - 1) a1 _ (HI.out.below HB.out) HN Ha1).mono ?_
  rintro e w2 ⟨rfl, hb⟩
  replace HB := Lib.hid (HB.out.trans (hb.mono HB.out.size))
  clear hb
  by_cases h1 : a1 = 45
  ·have d1 : (a1 != 45) = false := by simp [h1]
   obtain rfl : B = false := by rw [HBB.out, decide_eq_true h0, decide_eq_false (show ¬ (a1 ≠ 45) from fun h => h h1)]; rfl
   clear h0 h1 HBB
   go_wp2
   go_ret
   exact ⟨rfl, HB.out⟩
  ·have d1 : (a1 != 45) = true := by simp [h1]
   go_wp2_with fail
   refine (rat_at _ n cap zs 2 a2 _ (HI.out.below HB.out) HN Ha2).mono ?_
   rintro e w3 ⟨rfl, hb⟩
   replace HB := Lib.hid (HB.out.trans (hb.mono HB.out.size))
   clear hb
   by_cases h2 : a2 = 45
   ·have d2 : (a2 == 45) = true := by simp [h2]
    go_wp2_with fail
    refine (rat_at _ n cap zs 3 a3 _ (HI.out.below HB.out) HN Ha3).mono ?_
    rintro e w4 ⟨rfl, hb⟩
    replace HB := Lib.hid (HB.out.trans (hb.mono HB.out.size))
    clear hb
    obtain rfl : B = !(a3 == 45) := by rw [HBB.out, decide_eq_true h0, decide_eq_true h1, decide_eq_true h2]; by_cases h3 : a3 = 45 <;> simp [h3]
    clear h0 h1 h2 HBB
    go_wp2
    go_ret
    exact ⟨rfl, HB.out⟩
   ·have d2 : (a2 == 45) = false := by simp [h2]
    obtain rfl : B = true := by rw [HBB.out, decide_eq_true h0, decide_eq_true h1, decide_eq_false h2]; rfl
    clear h0 h1 h2 HBB
    go_wp2
    go_ret
    exact ⟨rfl, HB.out⟩
set_option maxRecDepth 100000 in
set_option maxHeartbeats 4000000 in
theorem rchk_at (x : TV) (T : Tb) (p : Option Addr) (cap : Nat) (zs : List Int) (V : Int) (w : World) (hx : TabV w x T) (hcap : CapOf x) (hin : IntsIn w p zs) (hl : zs.length ≤ 17592186043904) (hV : Hid (valR T zs = V)) :
 Calls Tryz.prog 14 #[x.agg, .slice p zs.length cap] w (Gives (.int .i64 V) w) := by
 obtain ⟨A, hA⟩ : ∃ A, Hid (accE T zs = A) := ⟨_, rfl⟩
 obtain ⟨N, hN⟩ : ∃ N, Hid (isnC T zs = N) := ⟨_, rfl⟩
 obtain ⟨Y, hY⟩ : ∃ Y, Hid (hypB zs = Y) := ⟨_, rfl⟩
 obtain ⟨Kj, Ej, hJ⟩ : ∃ K E, Hid (chkJ T zs = (K, E)) := ⟨_, _, rfl⟩
 obtain ⟨Kc, Ec, hC⟩ : ∃ K E, Hid (chkC T zs = (K, E)) := ⟨_, _, rfl⟩
 have HE := Lib.hid (Env.new hx)
 have HI := Lib.hid hin
 have hac := fun W (h1 : TabV W x T) h2 => racce_at x T p cap zs A W h1 hcap h2 hl hA
 have hnf := fun W (h1 : TabV W x T) h2 => risnfc_at x T p cap zs N W h1 hcap h2 hl hN
 have hjc := fun W (h1 : TabV W x T) h2 => rjcheck_at x T p cap zs Kj Ej W h1 hcap h2 hl hJ
 have hcc := fun W (h1 : TabV W x T) h2 => rccheck_at x T p cap zs Kc Ec W h1 hcap h2 hl hC
 have HV : Hid ((if A ≠ 0 then A else if zs = [] then 10 else if N = false then 13 else if Y = false then 14 else if catT T (zs.getD 0 0) = 2 then 15 else if zs.all (staV T) = false then 16 else if Ej ≠ 0 then Ej else Ec) = V) := by
  unfold Hid; rw [← hV.out]; unfold valR; rw [hA.out, hN.out, hY.out, hJ.out, hC.out]
 obtain ⟨n, hn⟩ : ∃ n, zs.length = n := ⟨_, rfl⟩
 rw [hn] at hl hac hnf hjc hcc ⊢
 have HN := Lib.hid hn
 have HAC := Lib.hid hac
 have HNF := Lib.hid hnf
 have HJC := Lib.hid hjc
 have HCC := Lib.hid hcc
 clear hx hin hn hcap hac hnf hjc hcc hV hN hJ hC
 simp only [TV.agg]
 go_enter Tryz.func14, Tryz.ntmps14
 obtain ⟨⟨k0, k1, k2, k3, k4, k5⟩, ⟨k6, k7, k8, k9, k10, k11⟩⟩ := HE.out.box.load
 go_wp2_with fail
 refine (HAC.out _ HE.out.tab (HI.out.below HE.out.bel)).mono ?_
 rintro e w1 ⟨rfl, hb⟩
 replace HE := Lib.hid (HE.out.step hb)
 clear hb
 clear k0 k1 k2 k3 k4 k5 k6 k7 k8 k9 k10 k11
 by_cases h0 : A = 0
 ·subst h0
  have hsp := (check_rules (accE_ok hA.out).1).2.1
  have HSC : Hid (spOk T.cat = true) := by simp only [r2, spansT, List.all_cons, List.all_nil, Bool.and_eq_true] at hsp; exact hsp.1.1
  have HSS : Hid (spOk T.sta = true) := by have := (check_rules (accE_ok hA.out).1).2.1; simp only [r2, spansT, List.all_cons, List.all_nil, Bool.and_eq_true] at this; exact this.1.2.2.2.2.2.1
  clear hsp
  replace HV := HV.out
  rw [if_neg (by simp)] at HV
  by_cases h1 : n = 0
  ·have hnil : zs = [] := List.eq_nil_of_length_eq_zero (by rw [HN.out]; exact h1)
   rw [if_pos hnil] at HV
   subst HV
   subst h1
   clear hnil
   go_wp2
   go_ret
   exact ⟨rfl, HE.out.bel⟩
  ·have dn : ((n : Int) == 0) = false := by simp; omega
   have hne : zs ≠ [] := fun h => h1 (by rw [← HN.out, h]; rfl)
   rw [if_neg hne] at HV
   have hkl : 0 < zs.length := by rw [HN.out]; omega
   replace HV := Lib.hid HV
   clear hne
   obtain ⟨⟨k0, k1, k2, k3, k4, k5⟩, ⟨k6, k7, k8, k9, k10, k11⟩⟩ := HE.out.box.load
   go_wp2_with fail
   refine (HNF.out _ HE.out.tab (HI.out.below HE.out.bel)).mono ?_
   rintro e w2 ⟨rfl, hb⟩
   replace HE := Lib.hid (HE.out.step hb)
   clear hb
   clear k0 k1 k2 k3 k4 k5 k6 k7 k8 k9 k10 k11
   cases N with
   | false =>
    obtain rfl : V = 13 := by rw [← HV.out, if_pos rfl]
    go_wp2
    go_ret
    exact ⟨rfl, HE.out.bel⟩
   | true =>
    replace HV := HV.out
    rw [if_neg (by simp)] at HV
    replace HV := Lib.hid HV
    go_wp2_with fail
    refine (rhyph_at _ n cap zs Y _ (HI.out.below HE.out.bel) HN hl hY).mono ?_
    rintro e w3 ⟨rfl, hb⟩
    replace HE := Lib.hid (HE.out.step hb)
    clear hb
    cases Y with
    | false =>
     obtain rfl : V = 14 := by rw [← HV.out, if_pos rfl]
     go_wp2
     go_ret
     exact ⟨rfl, HE.out.bel⟩
    | true =>
     replace HV := HV.out
     rw [if_neg (by simp)] at HV
     obtain ⟨z, hz⟩ : ∃ z, Hid (catT T (zs.getD 0 0) = z) := ⟨_, rfl⟩
     rw [hz.out] at HV
     replace HV := Lib.hid HV
     go_upto_region 10 with (fail)
     obtain ⟨b, off, rfl, hck⟩ := (HI.out.below HE.out.bel) 0 hkl
     obtain ⟨c, hc⟩ : ∃ c, zs.getD 0 0 = c := ⟨_, rfl⟩
     rw [hc, Nat.add_zero] at hck
     rw [hc] at hz
     have i1 : (0 : Int) < (n : Int) := by omega
     have i2 : 0 < n := by omega
     have K20 := fun p => layB_cell hck p
     have cc := fun p => layB_call (p := p) fun W2 hW2 => rcat_at x T c z W2 (HE.out.tab.below hW2) HSC.out hz
     simp only [TV.agg] at cc
     have CC := Lib.hid cc
     clear cc hc hck hkl
     obtain ⟨⟨k0, k1, k2, k3, k4, k5⟩, ⟨k6, k7, k8, k9, k10, k11⟩⟩ := HE.out.box.load
     have K0 := fun p => layB_cell k0 p
     have K1 := fun p => layB_cell k1 p
     have K2 := fun p => layB_cell k2 p
     have K3 := fun p => layB_cell k3 p
     have K4 := fun p => layB_cell k4 p
     have K5 := fun p => layB_cell k5 p
     have K6 := fun p => layB_cell k6 p
     have K7 := fun p => layB_cell k7 p
     have K8 := fun p => layB_cell k8 p
     have K9 := fun p => layB_cell k9 p
     have K10 := fun p => layB_cell k10 p
     have K11 := fun p => layB_cell k11 p
     clear k0 k1 k2 k3 k4 k5 k6 k7 k8 k9 k10 k11
     refine wp_region_layB (by kernel_rfl) (by kernel_rfl) ?_
     repeat (go_big_quiet_step ((go_at_call 21; with_reducible exact CC.out _)))
     refine wpQuiet_nil ?_
     intro _ hw'
     obtain ⟨pq, hw''⟩ := hw'
     subst hw''
     replace HE := Lib.hid (HE.out.step (layB_below w3 pq))
     generalize layB w3 pq = W2 at HE ⊢
     clear K0 K1 K2 K3 K4 K5 K6 K7 K8 K9 K10 K11 K20 CC
     by_cases hz2 : z = 2
     ·subst hz2
      obtain rfl : V = 15 := by rw [← HV.out, if_pos rfl]
      go_wp2
      go_ret
      exact ⟨rfl, HE.out.bel⟩
     ·have dz : (z == 2) = false := by simp [hz2]
      replace HV := HV.out
      rw [if_neg hz2] at HV
      replace HV := Lib.hid HV
      clear hz2
      rw [dz]
      go_wp2
      go_loopw [41] (fun i wr => ∃ k : Nat, k ≤ n ∧ i = .int .i64 k ∧ Hid ((zs.take k).all (staV T) = true) ∧ Hid (Env w x T wr)) (fun i _ => n - (intOf i).toNat)
      case atStart => exact ⟨0, Nat.zero_le _, rfl, rfl, HE⟩
      case round =>
       obtain ⟨k, hk, rfl, hall, he⟩ := hrel
       by_cases hlt : k < n
       ·have hkl : k < zs.length := by rw [HN.out]; exact hlt
        obtain ⟨b2, off2, e2, hck⟩ := (HI.out.below he.out.bel) k hkl
        injection e2 with e2
        injection e2 with e2 e3 _
        subst e2
        subst e3
        obtain ⟨d, hd⟩ : ∃ c, zs.getD k 0 = c := ⟨_, rfl⟩
        rw [hd] at hck
        obtain ⟨y, hy⟩ : ∃ y, Hid (staT T d = y) := ⟨_, rfl⟩
        have HST : Hid ((zs.take (k + 1)).all (staV T) = (decide (d ≠ 46) && (decide (y = 1) || decide (y = 4)))) := by
         unfold Hid; rw [List.take_succ_eq_append_getElem hkl, List.all_append, hall.out, Bool.true_and]
         have e : zs[k] = d := by rw [← hd]; simp [hkl]
         simp only [List.all_cons, List.all_nil, Bool.and_true, e]
         unfold staV; rw [hy.out]
        have HNO : Hid ((zs.take (k + 1)).all (staV T) = false → V = 16) := fun h => by
         rw [← HV.out, if_pos]
         cases hq : zs.all (staV T) with
         | false => rfl
         | true =>
          have : (zs.take (k + 1)).all (staV T) = true := List.all_eq_true.2 fun c hc => List.all_eq_true.1 hq c (List.mem_of_mem_take hc)
          rw [h] at this; cases this
        clear hd hkl hall
        obtain ⟨⟨k0, k1, k2, k3, k4, k5⟩, ⟨k6, k7, k8, k9, k10, k11⟩⟩ := he.out.box.load
        go_wp2_with fail
        refine (rstatus_at x T d y _ he.out.tab HSS.out hy).mono ?_
        rintro e w5 ⟨rfl, hb⟩
        replace he := Lib.hid (he.out.step hb)
        clear hb hck
        clear k0 k1 k2 k3 k4 k5 k6 k7 k8 k9 k10 k11
        by_cases hd46 : d = 46
        ·subst hd46
         obtain rfl : V = 16 := HNO.out (by rw [HST.out]; simp)
         clear HST
         go_wp2
         go_ret
         exact ⟨rfl, he.out.bel⟩
        ·have e46 : (d == 46) = false := by simp [hd46]
         by_cases hy1 : y = 1
         ·subst hy1
          have HS2 : Hid ((zs.take (k + 1)).all (staV T) = true) := by unfold Hid; rw [HST.out]; simp [hd46]
          clear hd46 HST
          go_wp2
          go_roundw
          case rel => exact ⟨k + 1, by omega, by go_num, HS2, he⟩
          case measure => first | (simp [intOf]; done) | (simp [intOf]; omega)
         ·have e1 : (y != 1) = true := by simp [hy1]
          by_cases hy4 : y = 4
          ·subst hy4
           have HS2 : Hid ((zs.take (k + 1)).all (staV T) = true) := by unfold Hid; rw [HST.out]; simp [hd46]
           clear hd46 HST hy1
           go_wp2
           go_roundw
           case rel => exact ⟨k + 1, by omega, by go_num, HS2, he⟩
           case measure => first | (simp [intOf]; done) | (simp [intOf]; omega)
          ·have e4 : (y != 4) = true := by simp [hy4]
           obtain rfl : V = 16 := HNO.out (by rw [HST.out]; simp [hy1, hy4])
           clear hd46 HST hy1 hy4
           go_wp2
           go_ret
           exact ⟨rfl, he.out.bel⟩
       ·have hq : zs.all (staV T) = true := by have h := hall.out; rwa [List.take_of_length_le (by rw [HN.out]; omega)] at h
        replace HV := HV.out
        rw [if_neg (by rw [hq]; simp)] at HV
        replace HV := Lib.hid HV
        replace HE := he
        clear hq hall he
        obtain ⟨⟨k0, k1, k2, k3, k4, k5⟩, ⟨k6, k7, k8, k9, k10, k11⟩⟩ := HE.out.box.load
        go_wp2_with fail
        refine (HJC.out _ HE.out.tab (HI.out.below HE.out.bel)).mono ?_
        rintro e w6 ⟨rfl, hb⟩
        replace HE := Lib.hid (HE.out.step hb)
        clear hb
        clear k0 k1 k2 k3 k4 k5 k6 k7 k8 k9 k10 k11
        by_cases hj0 : Ej = 0
        ·have dj : (Ej != 0) = false := by simp [hj0]
         obtain rfl : V = Ec := by rw [← HV.out, if_neg (by rw [hj0]; simp)]
         clear hj0
         obtain ⟨⟨k0, k1, k2, k3, k4, k5⟩, ⟨k6, k7, k8, k9, k10, k11⟩⟩ := HE.out.box.load
         go_wp2_with fail
         refine (HCC.out _ HE.out.tab (HI.out.below HE.out.bel)).mono ?_
         rintro e w7 ⟨rfl, hb⟩
         replace HE := Lib.hid (HE.out.step hb)
         clear hb
         clear k0 k1 k2 k3 k4 k5 k6 k7 k8 k9 k10 k11
         go_wp2
         go_ret
         exact ⟨rfl, HE.out.bel⟩
        ·have dj : (Ej != 0) = true := by simp [hj0]
         obtain rfl : V = Ej := by rw [← HV.out, if_pos hj0]
         clear hj0
         go_wp2
         go_ret
         exact ⟨rfl, HE.out.bel⟩
 ·have d0 : (A != 0) = true := by simp [h0]
  obtain rfl : V = A := by rw [← HV.out, if_pos h0]
  clear h0
  go_wp2
  go_ret
  exact ⟨rfl, HE.out.bel⟩
end Go.Proofs.YtopaojjodkoidaaGreatDoor
