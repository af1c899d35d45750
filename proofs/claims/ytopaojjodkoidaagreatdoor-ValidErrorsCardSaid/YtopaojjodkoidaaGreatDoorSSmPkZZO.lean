/- valid (stage 17): plain: what Hyphens and Check return, what -/
import Derived.Test.YtopaojjodkoidaaGreatDoorSSmPkZS
import Derived.Test.YtopaojjodkoidaaGreatDoorSSmPkZZG
import Derived.Test.YtopaojjodkoidaaGreatDoorSSmPkZZI
import Derived.Test.YtopaojjodkoidaaGreatDoorSSmPkZZK
import Derived.Test.YtopaojjodkoidaaGreatDoorSSmTabRN
import Derived.Test.YtopaojjodkoidaaGreatDoorSSmPkZT
import Derived.Test.YtopaojjodkoidaaGreatDoorSSmPkZZU
import Derived.Test.YtopaojjodkoidaaGreatDoorSSmPkC
import Derived.Test.YtopaojjodkoidaaGreatDoorSSmPkZZS
import Derived.BigRegion
import Derived.Deep.RegionHeld3
import Derived.Test.YtopaojjodkoidaaGreatDoorSSmPkS
set_option linter.unusedSimpArgs false
set_option linter.unusedVariables false
namespace Go.Proofs.YtopaojjodkoidaaGreatDoor
def hypB (l : List Int) : Bool := decide (atC l 0 ≠ 45) && decide (atC l ((l.length : Int) - 1) ≠ 45) && !(decide (atC l 2 = 45) && decide (atC l 3 = 45))
def staV (T : Tb) (c : Int) : Bool := decide (c ≠ 46) && (decide (staT T c = 1) || decide (staT T c = 4))
def valR (T : Tb) (l : List Int) : Int :=
 if accE T l ≠ 0 then accE T l else if l = [] then 10 else if isnC T l = false then 13 else if hypB l = false then 14
 else if catT T (l.getD 0 0) = 2 then 15 else if l.all (staV T) = false then 16 else if (chkJ T l).2 ≠ 0 then (chkJ T l).2 else (chkC T l).2
def wantH (l : List Int) : Bool :=
 if 4 ≤ l.length ∧ l.getD 2 0 = 45 ∧ l.getD 3 0 = 45 then false else decide (l.length = 0) || (decide (l.getD 0 0 ≠ 45) && decide (l.getD (l.length - 1) 0 ≠ 45))
theorem atC_nat {l : List Int} {k : Nat} (h : ¬ k < l.length) : atC l k = -1 := atC_out (fun hh => h (by omega))
theorem hyp_want (l : List Int) : hypB l = wantH l := by
 unfold hypB wantH
 by_cases hn : l.length = 0
 ·have e0 : atC l 0 = -1 := atC_nat (k := 0) (by omega)
  have e1 : atC l ((l.length : Int) - 1) = -1 := atC_out (fun hh => by omega)
  have e2 : atC l 2 = -1 := atC_nat (k := 2) (by omega)
  rw [e0, e1, e2, if_neg (fun h => by omega), hn]; rfl
 ·have e0 : atC l 0 = l.getD 0 0 := atC_in (k := 0) (by omega)
  have e1 : atC l ((l.length : Int) - 1) = l.getD (l.length - 1) 0 := by
   have := atC_in (l := l) (k := l.length - 1) (by omega)
   rw [← this]; congr 1; omega
  rw [e0, e1, decide_eq_false hn, Bool.false_or]
  by_cases h4 : 4 ≤ l.length
  ·have e2 : atC l 2 = l.getD 2 0 := atC_in (k := 2) (by omega)
   have e3 : atC l 3 = l.getD 3 0 := atC_in (k := 3) (by omega)
   rw [e2, e3]
   by_cases h : l.getD 2 0 = 45 ∧ l.getD 3 0 = 45
   ·rw [if_pos ⟨h4, h.1, h.2⟩, decide_eq_true h.1, decide_eq_true h.2]; simp
   ·rw [if_neg (fun hh => h hh.2)]
    have : (decide (l.getD 2 0 = 45) && decide (l.getD 3 0 = 45)) = false := by
     rw [Bool.and_eq_false_iff]
     by_cases h2 : l.getD 2 0 = 45
     ·exact .inr (decide_eq_false (fun h3 => h ⟨h2, h3⟩))
     ·exact .inl (decide_eq_false h2)
    rw [this]; simp
  ·have e3 : atC l 3 = -1 := atC_nat (k := 3) (by omega)
   rw [e3, if_neg (fun hh => h4 hh.1)]; simp
def veT : Tb := ⟨[], [], [], [], [], [], [], [], [], [], [], []⟩
theorem ve1 : valR veT [97] = 0 := by decide +kernel
theorem ve2 : valR veT [97, 45, 98] = 0 := by decide +kernel
theorem ve3 : valR veT [49] = 0 := by decide +kernel
theorem ve4 : valR veT [45, 97] = 14 := by decide +kernel
theorem ve5 : valR veT [97, 98, 45, 45, 99] = 14 := by decide +kernel
theorem ve6 : valR veT [] = 10 := by decide +kernel
open Go.RowKit
theorem vref_at (x : TV) (T : Tb) (p : Option Addr) (cap : Nat) (zs : List Int) (E : Int) (w : World) (hx : TabV w x T) (hr : Rsv w) (hin : IntsIn w p zs) (hl : zs.length ≤ 17592186043904) (hE : Hid (accE T zs = E)) :
 Calls Tryz.prog 34 #[x.agg, .slice p zs.length cap] w (Gives (.int .i64 E) w) := by
 obtain ⟨RL, hRL⟩ : ∃ L, Hid (runsL T zs = L) := ⟨_, rfl⟩
 have hac := fun W (h1 : TabV W x T) h2 h3 => runs_at x T p cap zs E RL W h1 h2 h3 hl hE hRL
 have HR := Lib.hid hr
 have HE := Lib.hid (Env.new hx)
 have HI := Lib.hid hin
 obtain ⟨n, hn⟩ : ∃ n, zs.length = n := ⟨_, rfl⟩
 rw [hn] at hl hac ⊢
 have HAC := Lib.hid hac
 clear hx hin hn hr hac
 simp only [TV.agg]
 go_enter Tryz.func34, Tryz.ntmps34
 obtain ⟨⟨k0, k1, k2, k3, k4, k5⟩, ⟨k6, k7, k8, k9, k10, k11⟩⟩ := HE.out.box.load
 go_wp2_with fail
 refine (HAC.out _ HE.out.tab (HR.out.below HE.out.bel) (HI.out.below HE.out.bel)).mono ?_
 rintro e w1 ⟨v0, rfl, _, hb1⟩
 replace HE := Lib.hid (HE.out.step hb1)
 clear hb1 k0 k1 k2 k3 k4 k5 k6 k7 k8 k9 k10 k11
 go_wp2
 go_ret
 exact ⟨rfl, HE.out.bel⟩
set_option maxRecDepth 100000 in
set_option maxHeartbeats 4000000 in
theorem visf_at (x : TV) (T : Tb) (c : Int) (B : Bool) (w : World) (hx : TabV w x T) (ha : ascB 0 T.sta = true) (hB : Hid (staV T c = B)) :
 Calls Tryz.prog 39 #[x.agg, .int .i64 c] w (Gives (.bool B) w) := by
 have HE := Lib.hid (Env.new hx)
 have HA := Lib.hid ha
 obtain ⟨y, hy⟩ : ∃ y, Hid (staT T c = y) := ⟨_, rfl⟩
 have HBB : Hid ((decide (c ≠ 46) && (decide (y = 1) || decide (y = 4))) = B) := by unfold Hid; rw [← hB.out]; unfold staV; rw [hy.out]
 clear hx ha hB
 simp only [TV.agg]
 go_enter Tryz.func39, Tryz.ntmps39
 obtain ⟨⟨k0, k1, k2, k3, k4, k5⟩, ⟨k6, k7, k8, k9, k10, k11⟩⟩ := HE.out.box.load
 go_wp2_with fail
 refine (status_at x T c y _ HE.out.tab HA.out hy).mono ?_
 rintro e w1 ⟨rfl, hb⟩
 replace HE := Lib.hid (HE.out.step hb)
 clear hb
 clear k0 k1 k2 k3 k4 k5 k6 k7 k8 k9 k10 k11
 clear hy
 by_cases hy1 : y = 1
 ·subst hy1
  obtain rfl : B = (c != 46) := by rw [← HBB.out]; by_cases h : c = 46 <;> simp [h]
  clear HBB
  go_wp2
  go_ret
  exact ⟨rfl, HE.out.bel⟩
 ·have e1 : (y == 1) = false := by simp [hy1]
  by_cases hy4 : y = 4
  ·subst hy4
   obtain rfl : B = (c != 46) := by rw [← HBB.out]; by_cases h : c = 46 <;> simp [h]
   clear HBB
   go_wp2
   go_ret
   exact ⟨rfl, HE.out.bel⟩
  ·have e4 : (y == 4) = false := by simp [hy4]
   obtain rfl : B = false := by rw [← HBB.out, decide_eq_false hy1, decide_eq_false hy4]; simp
   clear HBB hy1 hy4
   go_wp2
   go_ret
   exact ⟨rfl, HE.out.bel⟩
def notV (T : Tb) (c : Int) : Bool := !staV T c
theorem notV_any {T : Tb} {l : List Int} : l.any (notV T) = !l.all (staV T) := by rw [List.not_all_eq_any_not]; rfl
theorem vclo_any (c : Int) (g : Nat) (x : TV) (T : Tb) (w : World) (hb : BoxT w g x) (hx : TabV w x T) (ha : ascB 0 T.sta = true) :
 Calls Tryz.prog 38 #[.int .i64 c, .pointer (some ⟨g, 0, none⟩)] w (Gives (.bool (notV T c)) w) := by
 obtain ⟨B, hB⟩ : ∃ B, Hid (staV T c = B) := ⟨_, rfl⟩
 have HN : Hid (notV T c = !B) := by unfold Hid notV; rw [hB.out]
 have HX := Lib.hid hx
 have HA := Lib.hid ha
 obtain ⟨⟨k0, k1, k2, k3, k4, k5⟩, ⟨k6, k7, k8, k9, k10, k11⟩⟩ := hb
 clear hx ha
 go_enter Tryz.func38, Tryz.ntmps38
 go_wp2_with fail
 refine (visf_at x T c B _ HX.out HA.out hB).mono ?_
 rintro e w1 ⟨rfl, hb1⟩
 have HB1 := Lib.hid hb1
 clear hb1
 go_wp2
 go_ret
 exact ⟨by rw [HN.out]; rfl, HB1.out⟩
theorem testV (g : Nat) (x : TV) (T : Tb) (w : World) (hb : BoxT w g x) (hx : TabV w x T) (ha : ascB 0 T.sta = true) : TestI 38 #[.pointer (some ⟨g, 0, none⟩)] (notV T) w :=
 fun c W hW => vclo_any c g x T W (hb.below hW) (hx.below hW) ha
theorem entersV : ∀ args w, (callFunc 38 args).run Tryz.prog w = .ok (.enter 38 args) w := enters_of Tryz.func38 (by kernel_rfl) rfl
set_option maxRecDepth 100000 in
set_option maxHeartbeats 4000000 in
theorem vhyp_at (p : Option Addr) (n cap : Nat) (zs : List Int) (B : Bool) (w : World) (hin : IntsIn w p zs) (HN : Hid (zs.length = n)) (hl : n ≤ 17592186043904) (hB : Hid (hypB zs = B)) :
 Calls Tryz.prog 15 #[.slice p n cap] w (Gives (.bool B) w) := by
 have HI := Lib.hid hin
 have HW : Hid (wantH zs = B) := by unfold Hid; rw [← hyp_want]; exact hB.out
 clear hin hB
 go_enter Tryz.func15, Tryz.ntmps15
 by_cases h0 : n = 0
 ·subst h0
  have hnil : zs = [] := List.eq_nil_of_length_eq_zero HN.out
  obtain rfl : B = true := by rw [← HW.out, hnil]; rfl
  clear hnil HW
  go_wp2
  go_ret
  exact ⟨rfl, Below.refl _ _⟩
 ·have dn : ((n : Int) == 0) = false := by simp; omega
  have i0 : (0 : Int) < (n : Int) := by omega
  have i1 : 0 < n := by omega
  obtain ⟨a0, Ha0⟩ : ∃ a, zs.getD 0 0 = a := ⟨_, rfl⟩
  obtain ⟨a1, Ha1⟩ : ∃ a, zs.getD (n - 1) 0 = a := ⟨_, rfl⟩
  obtain ⟨a2, Ha2⟩ : ∃ a, zs.getD 2 0 = a := ⟨_, rfl⟩
  obtain ⟨a3, Ha3⟩ : ∃ a, zs.getD 3 0 = a := ⟨_, rfl⟩
  obtain ⟨b, off, e, hc0⟩ := HI.out 0 (by rw [HN.out]; omega)
  subst e
  obtain ⟨b', off', e, hc1⟩ := HI.out (n - 1) (by rw [HN.out]; omega)
  injection e with e
  injection e with e e2 _
  subst e
  subst e2
  rw [Ha0, Nat.add_zero] at hc0
  rw [Ha1] at hc1
  have HBB : Hid ((if 4 ≤ n ∧ a2 = 45 ∧ a3 = 45 then false else (decide (a0 ≠ 45) && decide (a1 ≠ 45))) = B) := by
   unfold Hid; rw [← HW.out]; unfold wantH; rw [HN.out, Ha0, Ha1, Ha2, Ha3, decide_eq_false h0, Bool.false_or]
  obtain ⟨m, hm⟩ : ∃ m, n - 1 = m := ⟨_, rfl⟩
  rw [hm] at hc1
  have s1 : (n : Int) - 1 = m := by omega
  have s2 : IntKind.i64.wrap (m : Int) = m := IntWalk.i64_in _ (by omega)
  have s3 : m < n := by omega
  have s4 : (m : Int) < n := by omega
  by_cases h1 : a0 = 45
  ·subst h1
   obtain rfl : B = false := by rw [← HBB.out]; split <;> simp
   clear HBB HW hm
   go_wp2
   go_ret
   exact ⟨rfl, Below.refl _ _⟩
  ·have d0 : (a0 == 45) = false := by simp [h1]
   by_cases h2 : a1 = 45
   ·subst h2
    obtain rfl : B = false := by rw [← HBB.out]; split <;> simp
    clear HBB HW hm
    go_wp2
    go_ret
    exact ⟨rfl, Below.refl _ _⟩
   ·have d1 : (a1 == 45) = false := by simp [h2]
    by_cases h4 : n < 4
    ·obtain rfl : B = true := by rw [← HBB.out, if_neg (fun h => by omega), decide_eq_true h1, decide_eq_true h2]; rfl
     have d4 : (n : Int) < 4 := by omega
     clear HBB HW hm
     go_wp2
     go_ret
     exact ⟨rfl, Below.refl _ _⟩
    ·have d4 : ¬ (n : Int) < 4 := by omega
     have d5 : decide ((n : Int) < 4) = false := decide_eq_false d4
     obtain ⟨b2, off2, e, hc2⟩ := HI.out 2 (by rw [HN.out]; omega)
     injection e with e
     injection e with e e2 _
     subst e
     subst e2
     obtain ⟨b3, off3, e, hc3⟩ := HI.out 3 (by rw [HN.out]; omega)
     injection e with e
     injection e with e e2 _
     subst e
     subst e2
     rw [Ha2] at hc2
     rw [Ha3] at hc3
     have j2 : (2 : Int) < n := by omega
     have j3 : (3 : Int) < n := by omega
     have j4 : 2 < n := by omega
     have j5 : 3 < n := by omega
     by_cases h5 : a2 = 45
     ·subst h5
      obtain rfl : B = (a3 != 45) := by
       rw [← HBB.out]; by_cases h : a3 = 45
       ·rw [if_pos ⟨by omega, rfl, h⟩]; simp [h]
       ·rw [if_neg (fun hh => h hh.2.2), decide_eq_true h1, decide_eq_true h2]; simp [h]
      clear HBB HW hm
      go_wp2
      go_ret
      exact ⟨rfl, Below.refl _ _⟩
     ·have d6 : (a2 != 45) = true := by simp [h5]
      obtain rfl : B = true := by rw [← HBB.out, if_neg (fun hh => h5 hh.2.1), decide_eq_true h1, decide_eq_true h2]; rfl
      clear HBB HW hm
      go_wp2
      go_ret
      exact ⟨rfl, Below.refl _ _⟩
set_option maxRecDepth 100000 in
set_option maxHeartbeats 4000000 in
theorem vchk_at (x : TV) (T : Tb) (p : Option Addr) (cap : Nat) (zs : List Int) (V : Int) (w : World) (hx : TabV w x T) (hr : Rsv w) (hin : IntsIn w p zs) (hl : zs.length ≤ 17592186043904) (hV : Hid (valR T zs = V)) :
 Calls Tryz.prog 13 #[x.agg, .slice p zs.length cap] w (Gives (.int .i64 V) w) := by
 obtain ⟨A, hA⟩ : ∃ A, Hid (accE T zs = A) := ⟨_, rfl⟩
 obtain ⟨N, hN⟩ : ∃ N, Hid (isnC T zs = N) := ⟨_, rfl⟩
 obtain ⟨Y, hY⟩ : ∃ Y, Hid (hypB zs = Y) := ⟨_, rfl⟩
 obtain ⟨S, hS⟩ : ∃ S, Hid (zs.any (notV T) = S) := ⟨_, rfl⟩
 obtain ⟨Kj, Ej, hJ⟩ : ∃ K E, Hid (chkJ T zs = (K, E)) := ⟨_, _, rfl⟩
 obtain ⟨Kc, Ec, hC⟩ : ∃ K E, Hid (chkC T zs = (K, E)) := ⟨_, _, rfl⟩
 have HE := Lib.hid (Env.new hx)
 have HR := Lib.hid hr
 have HI := Lib.hid hin
 have hac := fun W (h1 : TabV W x T) h3 h2 => vref_at x T p cap zs A W h1 h3 h2 hl hA
 have hnf := fun W (h1 : TabV W x T) h3 h2 => isnfc_at x T p cap zs N W h1 h3 h2 hl hN
 have hjc := fun W (h1 : TabV W x T) h3 h2 => jcheck_at x T p cap zs Kj Ej W h1 h3 h2 hl hJ
 have hcc := fun W (h1 : TabV W x T) h3 h2 => ccheck_at x T p cap zs Kc Ec W h1 h3 h2 hl hC
 have hcf := fun W g (h0 : BoxT W g x) (h1 : TabV W x T) h2 ha => conI_any (.slice p zs.length cap) zs 38 #[.pointer (some ⟨g, 0, none⟩)] (notV T) S W ⟨p, cap, rfl, h2, hl⟩ (testV g x T W h0 h1 ha) entersV hS
 have HV : Hid ((if A ≠ 0 then A else if zs = [] then 10 else if N = false then 13 else if Y = false then 14 else if catT T (zs.getD 0 0) = 2 then 15 else if S = true then 16 else if Ej ≠ 0 then Ej else Ec) = V) := by
  unfold Hid; rw [← hV.out]; unfold valR; rw [hA.out, hN.out, hY.out, hJ.out, hC.out, ← hS.out, notV_any]
  cases zs.all (staV T) <;> simp
 obtain ⟨n, hn⟩ : ∃ n, zs.length = n := ⟨_, rfl⟩
 rw [hn] at hl hac hnf hjc hcc hcf ⊢
 have HN := Lib.hid hn
 have HAC := Lib.hid hac
 have HNF := Lib.hid hnf
 have HJC := Lib.hid hjc
 have HCC := Lib.hid hcc
 have HCF := Lib.hid hcf
 clear hx hin hn hr hac hnf hjc hcc hcf hV hN hJ hC hS
 simp only [TV.agg]
 go_enter Tryz.func13, Tryz.ntmps13
 obtain ⟨⟨k0, k1, k2, k3, k4, k5⟩, ⟨k6, k7, k8, k9, k10, k11⟩⟩ := HE.out.box.load
 go_wp2_with fail
 refine (HAC.out _ HE.out.tab (HR.out.below HE.out.bel) (HI.out.below HE.out.bel)).mono ?_
 rintro e w1 ⟨rfl, hb⟩
 replace HE := Lib.hid (HE.out.step hb)
 clear hb
 clear k0 k1 k2 k3 k4 k5 k6 k7 k8 k9 k10 k11
 by_cases h0 : A = 0
 ·subst h0
  have hsp := r2_sp (check_rules (accE_ok hA.out).1).2.1
  have HSC : Hid (ascB 0 T.cat = true) := hsp.1
  have HSS : Hid (ascB 0 T.sta = true) := hsp.2.2.2.2.2.1
  clear hsp
  replace HV := HV.out
  rw [if_neg (by simp)] at HV
  by_cases h1 : n = 0
  ·have hnil : zs = [] := List.eq_nil_of_length_eq_zero (by rw [HN.out]; exact h1)
   rw [if_pos hnil] at HV
   subst HV
   subst h1
   clear hnil
   go_wp2
   go_ret
   exact ⟨rfl, HE.out.bel⟩
  ·have dn : ((n : Int) == 0) = false := by simp; omega
   have hne : zs ≠ [] := fun h => h1 (by rw [← HN.out, h]; rfl)
   rw [if_neg hne] at HV
   have hkl : 0 < zs.length := by rw [HN.out]; omega
   replace HV := Lib.hid HV
   clear hne
   obtain ⟨⟨k0, k1, k2, k3, k4, k5⟩, ⟨k6, k7, k8, k9, k10, k11⟩⟩ := HE.out.box.load
   go_wp2_with fail
   refine (HNF.out _ HE.out.tab (HR.out.below HE.out.bel) (HI.out.below HE.out.bel)).mono ?_
   rintro e w2 ⟨rfl, hb⟩
   replace HE := Lib.hid (HE.out.step hb)
   clear hb
   clear k0 k1 k2 k3 k4 k5 k6 k7 k8 k9 k10 k11
   cases N with
   | false =>
    obtain rfl : V = 13 := by rw [← HV.out, if_pos rfl]
    go_wp2
    go_ret
    exact ⟨rfl, HE.out.bel⟩
   | true =>
    replace HV := HV.out
    rw [if_neg (by simp)] at HV
    replace HV := Lib.hid HV
    go_wp2_with fail
    refine (vhyp_at _ n cap zs Y _ (HI.out.below HE.out.bel) HN hl hY).mono ?_
    rintro e w3 ⟨rfl, hb⟩
    replace HE := Lib.hid (HE.out.step hb)
    clear hb
    cases Y with
    | false =>
     obtain rfl : V = 14 := by rw [← HV.out, if_pos rfl]
     go_wp2
     go_ret
     exact ⟨rfl, HE.out.bel⟩
    | true =>
     replace HV := HV.out
     rw [if_neg (by simp)] at HV
     obtain ⟨z, hz⟩ : ∃ z, Hid (catT T (zs.getD 0 0) = z) := ⟨_, rfl⟩
     rw [hz.out] at HV
     replace HV := Lib.hid HV
     go_upto_region 10 with (fail)
     obtain ⟨b, off, rfl, hck⟩ := (HI.out.below HE.out.bel) 0 hkl
     obtain ⟨c, hc⟩ : ∃ c, zs.getD 0 0 = c := ⟨_, rfl⟩
     rw [hc, Nat.add_zero] at hck
     rw [hc] at hz
     have i1 : (0 : Int) < (n : Int) := by omega
     have i2 : 0 < n := by omega
     have K20 := fun p => layB_cell hck p
     have cc := fun p => layB_call (p := p) fun W2 hW2 => category_at x T c z W2 (HE.out.tab.below hW2) HSC.out hz
     simp only [TV.agg] at cc
     have CC := Lib.hid cc
     clear cc hc hck hkl
     obtain ⟨⟨k0, k1, k2, k3, k4, k5⟩, ⟨k6, k7, k8, k9, k10, k11⟩⟩ := HE.out.box.load
     have K0 := fun p => layB_cell k0 p
     have K1 := fun p => layB_cell k1 p
     have K2 := fun p => layB_cell k2 p
     have K3 := fun p => layB_cell k3 p
     have K4 := fun p => layB_cell k4 p
     have K5 := fun p => layB_cell k5 p
     have K6 := fun p => layB_cell k6 p
     have K7 := fun p => layB_cell k7 p
     have K8 := fun p => layB_cell k8 p
     have K9 := fun p => layB_cell k9 p
     have K10 := fun p => layB_cell k10 p
     have K11 := fun p => layB_cell k11 p
     clear k0 k1 k2 k3 k4 k5 k6 k7 k8 k9 k10 k11
     refine wp_region_layB (by kernel_rfl) (by kernel_rfl) ?_
     repeat (go_big_quiet_step ((go_at_call 36; with_reducible exact CC.out _)))
     refine wpQuiet_nil ?_
     intro _ hw'
     obtain ⟨pq, hw''⟩ := hw'
     subst hw''
     replace HE := Lib.hid (HE.out.step (layB_below w3 pq))
     generalize layB w3 pq = W2 at HE ⊢
     clear K0 K1 K2 K3 K4 K5 K6 K7 K8 K9 K10 K11 K20 CC
     by_cases hz2 : z = 2
     ·subst hz2
      obtain rfl : V = 15 := by rw [← HV.out, if_pos rfl]
      go_wp2
      go_ret
      exact ⟨rfl, HE.out.bel⟩
     ·have dz : (z == 2) = false := by simp [hz2]
      replace HV := HV.out
      rw [if_neg hz2] at HV
      replace HV := Lib.hid HV
      clear hz2
      rw [dz]
      obtain ⟨⟨k0, k1, k2, k3, k4, k5⟩, ⟨k6, k7, k8, k9, k10, k11⟩⟩ := HE.out.box.load
      go_wp2_with fail
      refine (HCF.out _ _ HE.out.box HE.out.tab (HI.out.below HE.out.bel) HSS.out).mono ?_
      rintro e w5 ⟨rfl, hb⟩
      replace HE := Lib.hid (HE.out.step hb)
      clear hb
      clear k0 k1 k2 k3 k4 k5 k6 k7 k8 k9 k10 k11
      cases S with
      | true =>
       obtain rfl : V = 16 := by rw [← HV.out, if_pos rfl]
       go_wp2
       go_ret
       exact ⟨rfl, HE.out.bel⟩
      | false =>
       replace HV := HV.out
       rw [if_neg (by simp)] at HV
       replace HV := Lib.hid HV
       obtain ⟨⟨k0, k1, k2, k3, k4, k5⟩, ⟨k6, k7, k8, k9, k10, k11⟩⟩ := HE.out.box.load
       go_wp2_with fail
       refine (HJC.out _ HE.out.tab (HR.out.below HE.out.bel) (HI.out.below HE.out.bel)).mono ?_
       rintro e w6 ⟨rfl, hb⟩
       replace HE := Lib.hid (HE.out.step hb)
       clear hb
       clear k0 k1 k2 k3 k4 k5 k6 k7 k8 k9 k10 k11
       by_cases hj0 : Ej = 0
       ·have dj : (Ej != 0) = false := by simp [hj0]
        obtain rfl : V = Ec := by rw [← HV.out, if_neg (by rw [hj0]; simp)]
        clear hj0
        obtain ⟨⟨k0, k1, k2, k3, k4, k5⟩, ⟨k6, k7, k8, k9, k10, k11⟩⟩ := HE.out.box.load
        go_wp2_with fail
        refine (HCC.out _ HE.out.tab (HR.out.below HE.out.bel) (HI.out.below HE.out.bel)).mono ?_
        rintro e w7 ⟨rfl, hb⟩
        replace HE := Lib.hid (HE.out.step hb)
        clear hb
        clear k0 k1 k2 k3 k4 k5 k6 k7 k8 k9 k10 k11
        go_wp2
        go_ret
        exact ⟨rfl, HE.out.bel⟩
       ·have dj : (Ej != 0) = true := by simp [hj0]
        obtain rfl : V = Ej := by rw [← HV.out, if_pos hj0]
        clear hj0
        go_wp2
        go_ret
        exact ⟨rfl, HE.out.bel⟩
 ·have d0 : (A != 0) = true := by simp [h0]
  obtain rfl : V = A := by rw [← HV.out, if_pos h0]
  clear h0
  go_wp2
  go_ret
  exact ⟨rfl, HE.out.bel⟩
def veX : TV := ⟨.slice none 0 0, .slice none 0 0, .slice none 0 0, .slice none 0 0, .slice none 0 0, .slice none 0 0, .slice none 0 0, .slice none 0 0, .slice none 0 0, .slice none 0 0, .slice none 0 0, .slice none 0 0⟩
theorem ve_sp (w : World) : SpV w (.slice none 0 0) [] := ⟨none, 0, rfl, fun k hk => absurd hk (Nat.not_lt_zero _), by simp⟩
theorem ve_mp (w : World) : MpV w (.slice none 0 0) [] := ⟨none, 0, rfl, fun k hk => absurd hk (Nat.not_lt_zero _), by simp⟩
theorem ve_in (w : World) : InV w (.slice none 0 0) [] := ⟨none, 0, rfl, fun k hk => absurd hk (Nat.not_lt_zero _), by simp⟩
theorem ve_tab (w : World) : TabV w veX veT := ⟨ve_sp w, ve_sp w, ve_sp w, ve_sp w, ve_sp w, ve_sp w, ve_sp w, ve_mp w, ve_mp w, ve_mp w, ve_in w, ve_mp w⟩
set_option maxRecDepth 100000 in
set_option maxHeartbeats 4000000 in
theorem awake17_any (w : World) (hr : Rsv w) : Calls Tryz.prog 12 #[] w (Gives (.bool true) w) := by
 have htb : TabV (w.alloc (.cells (tabCells veX) 26)) veX veT := ve_tab _
 have hbx := BoxT.new w veX 26
 have hb1 := (Below.refl w.heap.size w).alloc (Nat.le_refl _) (.cells (tabCells veX) 26)
 have HR := Lib.hid hr
 have HE : Hid (LEnv w w.heap.size veX veT (w.alloc (.cells (tabCells veX) 26))) := ⟨htb, hbx, hb1⟩
 clear hr hb1 htb hbx
 obtain ⟨x, hx⟩ : ∃ x, veX = x := ⟨_, rfl⟩
 have hcl : tabCells veX = #[x.a0, x.a1, x.a2, x.a3, x.a4, x.a5, x.a6, x.a7, x.a8, x.a9, x.a10, x.a11] := by first | (rw [hx]; done) | (rw [hx]; rfl)
 have HX : Hid (#[x.a0, x.a1, x.a2, x.a3, x.a4, x.a5, x.a6, x.a7, x.a8, x.a9, x.a10, x.a11] = #[.slice none 0 0, .slice none 0 0, .slice none 0 0, .slice none 0 0, .slice none 0 0, .slice none 0 0, .slice none 0 0, .slice none 0 0, .slice none 0 0, .slice none 0 0, .slice none 0 0, .slice none 0 0]) := by unfold Hid; first | (rw [← hx]; done) | (rw [← hx]; rfl)
 rw [hcl, HX.out, hx] at HE
 clear hcl hx HX
 go_enter Tryz.func12, Tryz.ntmps12
 go_upto_region 2 with (fail)
 generalize w.alloc (.cells #[.slice none 0 0, .slice none 0 0, .slice none 0 0, .slice none 0 0, .slice none 0 0, .slice none 0 0, .slice none 0 0, .slice none 0 0, .slice none 0 0, .slice none 0 0, .slice none 0 0, .slice none 0 0] 26) = WB at HE ⊢
 obtain ⟨⟨k0, k1, k2, k3, k4, k5⟩, ⟨k6, k7, k8, k9, k10, k11⟩⟩ := HE.out.box.load
 have HI := Lib.hid (lit_ints WB #[.int .i64 97] [97] 3 rfl)
 have HEA := Lib.hid (HE.out.step ((Below.refl WB.heap.size WB).alloc (Nat.le_refl _) (.cells #[.int .i64 97] 3)))
 go_wp2_with fail
 refine (vchk_at x veT _ 1 [97] 0 _ HEA.out.tab (HR.out.below HEA.out.bel) HI.out (by simp) (Lib.hid ve1)).mono ?_
 rintro e w1 ⟨rfl, hb⟩
 replace HE := Lib.hid (HEA.out.step hb)
 clear hb HI HEA k0 k1 k2 k3 k4 k5 k6 k7 k8 k9 k10 k11
 obtain ⟨⟨k0, k1, k2, k3, k4, k5⟩, ⟨k6, k7, k8, k9, k10, k11⟩⟩ := HE.out.box.load
 have HI := Lib.hid (lit_ints w1 #[.int .i64 97, .int .i64 45, .int .i64 98] [97, 45, 98] 3 rfl)
 have HEA := Lib.hid (HE.out.step ((Below.refl w1.heap.size w1).alloc (Nat.le_refl _) (.cells #[.int .i64 97, .int .i64 45, .int .i64 98] 3)))
 go_wp2_with fail
 refine (vchk_at x veT _ 3 [97, 45, 98] 0 _ HEA.out.tab (HR.out.below HEA.out.bel) HI.out (by simp) (Lib.hid ve2)).mono ?_
 rintro e w2 ⟨rfl, hb⟩
 replace HE := Lib.hid (HEA.out.step hb)
 clear hb HI HEA k0 k1 k2 k3 k4 k5 k6 k7 k8 k9 k10 k11
 obtain ⟨⟨k0, k1, k2, k3, k4, k5⟩, ⟨k6, k7, k8, k9, k10, k11⟩⟩ := HE.out.box.load
 have HI := Lib.hid (lit_ints w2 #[.int .i64 49] [49] 3 rfl)
 have HEA := Lib.hid (HE.out.step ((Below.refl w2.heap.size w2).alloc (Nat.le_refl _) (.cells #[.int .i64 49] 3)))
 go_wp2_with fail
 refine (vchk_at x veT _ 1 [49] 0 _ HEA.out.tab (HR.out.below HEA.out.bel) HI.out (by simp) (Lib.hid ve3)).mono ?_
 rintro e w3 ⟨rfl, hb⟩
 replace HE := Lib.hid (HEA.out.step hb)
 clear hb HI HEA k0 k1 k2 k3 k4 k5 k6 k7 k8 k9 k10 k11
 obtain ⟨⟨k0, k1, k2, k3, k4, k5⟩, ⟨k6, k7, k8, k9, k10, k11⟩⟩ := HE.out.box.load
 have HI := Lib.hid (lit_ints w3 #[.int .i64 45, .int .i64 97] [45, 97] 3 rfl)
 have HEA := Lib.hid (HE.out.step ((Below.refl w3.heap.size w3).alloc (Nat.le_refl _) (.cells #[.int .i64 45, .int .i64 97] 3)))
 go_wp2_with fail
 refine (vchk_at x veT _ 2 [45, 97] 14 _ HEA.out.tab (HR.out.below HEA.out.bel) HI.out (by simp) (Lib.hid ve4)).mono ?_
 rintro e w4 ⟨rfl, hb⟩
 replace HE := Lib.hid (HEA.out.step hb)
 clear hb HI HEA k0 k1 k2 k3 k4 k5 k6 k7 k8 k9 k10 k11
 obtain ⟨⟨k0, k1, k2, k3, k4, k5⟩, ⟨k6, k7, k8, k9, k10, k11⟩⟩ := HE.out.box.load
 have HI := Lib.hid (lit_ints w4 #[.int .i64 97, .int .i64 98, .int .i64 45, .int .i64 45, .int .i64 99] [97, 98, 45, 45, 99] 3 rfl)
 have HEA := Lib.hid (HE.out.step ((Below.refl w4.heap.size w4).alloc (Nat.le_refl _) (.cells #[.int .i64 97, .int .i64 98, .int .i64 45, .int .i64 45, .int .i64 99] 3)))
 go_wp2_with fail
 refine (vchk_at x veT _ 5 [97, 98, 45, 45, 99] 14 _ HEA.out.tab (HR.out.below HEA.out.bel) HI.out (by simp) (Lib.hid ve5)).mono ?_
 rintro e w5 ⟨rfl, hb⟩
 replace HE := Lib.hid (HEA.out.step hb)
 clear hb HI HEA k0 k1 k2 k3 k4 k5 k6 k7 k8 k9 k10 k11
 obtain ⟨⟨k0, k1, k2, k3, k4, k5⟩, ⟨k6, k7, k8, k9, k10, k11⟩⟩ := HE.out.box.load
 go_wp2_with fail
 refine (vchk_at x veT none 0 [] 10 _ HE.out.tab (HR.out.below HE.out.bel) (fun k hk => absurd hk (Nat.not_lt_zero _)) (by simp) (Lib.hid ve6)).mono ?_
 rintro e w6 ⟨rfl, hb⟩
 replace HE := Lib.hid (HE.out.step hb)
 clear hb k0 k1 k2 k3 k4 k5 k6 k7 k8 k9 k10 k11
 have HBZ := Lib.hid HE.out.bel
 go_wp2
 go_ret
 exact ⟨rfl, HBZ.out⟩
end Go.Proofs.YtopaojjodkoidaaGreatDoor
