/- context: contracts of the references at, some, kana, Context -/
import Derived.Test.YtopaojjodkoidaaGreatDoorSSmPkZZK
import Derived.Test.YtopaojjodkoidaaGreatDoorSSmPkZZG
import Derived.Test.YtopaojjodkoidaaGreatDoorSSmPkZZS
import Derived.Test.YtopaojjodkoidaaGreatDoorSSmPkF
import Derived.Test.YtopaojjodkoidaaGreatDoorSSmPkZ
import Derived.BigRegion
set_option linter.unusedSimpArgs false
set_option linter.unusedVariables false
namespace Go.Proofs.YtopaojjodkoidaaGreatDoor
open Go.RowKit
theorem r2_scr {T : Tb} (h : r2 T = true) : spOk T.scr = true := by
 simp only [r2, spansT, List.all_cons, List.all_nil, Bool.and_eq_true] at h; exact h.1.2.2.2.2.1
set_option maxHeartbeats 1000000 in
theorem rat_at (p : Option Addr) (n cap : Nat) (zs : List Int) (i V : Int) (w : World) (hin : IntsIn w p zs) (HN : Hid (zs.length = n)) (hV : Hid (atC zs i = V)) :
 Calls Tryz.prog 47 #[.slice p n cap, .int .i64 i] w (Gives (.int .i64 V) w) := by
 have HI := Lib.hid hin
 clear hin
 go_enter Tryz.func47, Tryz.ntmps47
 by_cases h1 : i < 0
 ·have d1 : decide (i < 0) = true := decide_eq_true h1
  obtain rfl : V = -1 := by rw [← hV.out]; exact atC_out (fun h => by omega)
  clear hV
  go_wp2
  go_ret
  exact ⟨rfl, Below.refl _ _⟩
 ·have d1 : decide (i < 0) = false := decide_eq_false h1
  by_cases h2 : (n : Int) ≤ i
  ·have d2 : decide ((n : Int) ≤ i) = true := decide_eq_true h2
   obtain rfl : V = -1 := by rw [← hV.out]; exact atC_out (fun h => by rw [HN.out] at h; omega)
   clear hV
   go_wp2
   go_ret
   exact ⟨rfl, Below.refl _ _⟩
  ·have d2 : decide ((n : Int) ≤ i) = false := decide_eq_false h2
   obtain ⟨m, rfl⟩ : ∃ m : Nat, i = m := ⟨i.toNat, by omega⟩
   have hml : m < zs.length := by rw [HN.out]; omega
   obtain ⟨b, off, rfl, hck⟩ := HI.out m hml
   have hV2 : zs.getD m 0 = V := by rw [← hV.out, atC_in hml]
   rw [hV2] at hck
   have i0 : (0 : Int) ≤ (m : Int) := by omega
   have i1 : (m : Int) < (n : Int) := by omega
   clear hV hV2
   go_wp2
   go_ret
   exact ⟨rfl, Below.refl _ _⟩
set_option maxRecDepth 100000 in
set_option maxHeartbeats 4000000 in
theorem rsome_at (lo hi : Int) (q : Int → Bool) (hq : ∀ c, (decide (lo ≤ c) && decide (c ≤ hi)) = q c) (p : Option Addr) (n cap : Nat) (zs : List Int) (B : Bool) (w : World) (hin : IntsIn w p zs) (HN : Hid (zs.length = n)) (hl : n ≤ 17592186043904) (hB : Hid (zs.any q = B)) :
 Calls Tryz.prog 105 #[.slice p n cap, .int .i64 lo, .int .i64 hi] w (Gives (.bool B) w) := by
 have HI := Lib.hid hin
 have HQ := Lib.hid hq
 clear hq
 clear hin
 go_enter Tryz.func105, Tryz.ntmps105
 go_wp2
 go_loopw [11] (fun i wr => ∃ k : Nat, k ≤ n ∧ i = .int .i64 k ∧ Hid ((zs.take k).any q = false) ∧ Hid (Below w.heap.size w wr)) (fun i _ => n - (intOf i).toNat)
 case atStart => exact ⟨0, Nat.zero_le _, rfl, rfl, Lib.hid (Below.refl _ _)⟩
 case round =>
  obtain ⟨k, hk, rfl, ha, hb⟩ := hrel
  by_cases hlt : k < n
  ·have hkl : k < zs.length := by rw [HN.out]; exact hlt
   obtain ⟨b, off, rfl, hck⟩ := (HI.out.below hb.out) k hkl
   obtain ⟨c, hc⟩ : ∃ c, zs.getD k 0 = c := ⟨_, rfl⟩
   rw [hc] at hck
   obtain ⟨B1, hB1⟩ : ∃ B1, Hid (q c = B1) := ⟨_, rfl⟩
   have HST : Hid ((zs.take (k + 1)).any q = B1) := by unfold Hid; rw [any_step q zs k hkl, ha.out, hc, hB1.out, Bool.false_or]
   have HYS : Hid (B1 = true → B = true) := fun h => by rw [← hB.out]; exact any_yes hkl (by rw [hc, hB1.out]; exact h)
   clear hc hkl ha
   go_wp2_with fail
   refine (rin_at c lo hi B1 _ (by unfold Hid; rw [HQ.out c]; exact hB1.out)).mono ?_
   rintro e w2 ⟨rfl, hb2⟩
   replace hb := Lib.hid (hb.out.trans (hb2.mono hb.out.size))
   clear hb2 hck
   cases B1 with
   | true =>
    obtain rfl : B = true := HYS.out rfl
    go_wp2
    go_ret
    exact ⟨rfl, hb.out⟩
   | false =>
    clear HYS
    go_wp2
    go_roundw
    case rel => exact ⟨k + 1, by omega, by go_num, HST, hb⟩
    case measure => first | (simp [intOf]; done) | (simp [intOf]; omega)
  ·obtain rfl : k = n := by omega
   obtain rfl : B = false := by rw [← hB.out, ← ha.out, List.take_of_length_le (by rw [HN.out]; exact Nat.le_refl _)]
   go_wp2
   go_ret
   exact ⟨rfl, hb.out⟩
set_option maxRecDepth 100000 in
set_option maxHeartbeats 4000000 in
theorem rkana_at (x : TV) (T : Tb) (p : Option Addr) (n cap : Nat) (zs : List Int) (B : Bool) (w : World) (hx : TabV w x T) (ha : spOk T.scr = true) (hin : IntsIn w p zs) (HN : Hid (zs.length = n)) (hl : n ≤ 17592186043904) (hB : Hid (zs.any (kanB T) = B)) :
 Calls Tryz.prog 103 #[x.agg, .slice p n cap] w (Gives (.bool B) w) := by
 have HE := Lib.hid (Env.new hx)
 have HI := Lib.hid hin
 have HA := Lib.hid ha
 clear hx hin ha
 simp only [TV.agg]
 go_enter Tryz.func103, Tryz.ntmps103
 go_wp2
 go_loopw [10] (fun i wr => ∃ k : Nat, k ≤ n ∧ i = .int .i64 k ∧ Hid ((zs.take k).any (kanB T) = false) ∧ Hid (Env w x T wr)) (fun i _ => n - (intOf i).toNat)
 case atStart => exact ⟨0, Nat.zero_le _, rfl, rfl, HE⟩
 case round =>
  obtain ⟨k, hk, rfl, ha, he⟩ := hrel
  by_cases hlt : k < n
  ·have hkl : k < zs.length := by rw [HN.out]; exact hlt
   obtain ⟨b, off, rfl, hck⟩ := (HI.out.below he.out.bel) k hkl
   obtain ⟨c, hc⟩ : ∃ c, zs.getD k 0 = c := ⟨_, rfl⟩
   rw [hc] at hck
   obtain ⟨z, hz⟩ : ∃ z, Hid (scrT T c = z) := ⟨_, rfl⟩
   have HKB : Hid (kanB T c = (decide (z = 7) || decide (z = 8) || decide (z = 6))) := by unfold Hid kanB; rw [hz.out]
   have HST : Hid ((zs.take (k + 1)).any (kanB T) = kanB T c) := by unfold Hid; rw [any_step (kanB T) zs k hkl, ha.out, hc, Bool.false_or]
   have HYS : Hid (kanB T c = true → B = true) := fun h => by rw [← hB.out]; exact any_yes hkl (by rw [hc]; exact h)
   clear hc hkl ha
   obtain ⟨⟨k0, k1, k2, k3, k4, k5⟩, ⟨k6, k7, k8, k9, k10, k11⟩⟩ := he.out.box.load
   go_wp2_with fail
   refine (rscr_at x T c z _ he.out.tab HA.out hz).mono ?_
   rintro e w2 ⟨rfl, hb2⟩
   replace he := Lib.hid (he.out.step hb2)
   clear hb2 hck
   clear k0 k1 k2 k3 k4 k5 k6 k7 k8 k9 k10 k11
   by_cases h7 : z = 7
   ·subst h7
    obtain rfl : B = true := HYS.out (by rw [HKB.out]; decide)
    go_wp2
    go_ret
    exact ⟨rfl, he.out.bel⟩
   ·have d7 : (z == 7) = false := by simp [h7]
    by_cases h8 : z = 8
    ·subst h8
     obtain rfl : B = true := HYS.out (by rw [HKB.out]; decide)
     go_wp2
     go_ret
     exact ⟨rfl, he.out.bel⟩
    ·have d8 : (z == 8) = false := by simp [h8]
     by_cases h6 : z = 6
     ·subst h6
      obtain rfl : B = true := HYS.out (by rw [HKB.out]; decide)
      go_wp2
      go_ret
      exact ⟨rfl, he.out.bel⟩
     ·have d6 : (z == 6) = false := by simp [h6]
      have HST2 : Hid ((zs.take (k + 1)).any (kanB T) = false) := by unfold Hid; rw [HST.out, HKB.out]; simp [h7, h8, h6]
      clear h7 h8 h6 HYS
      go_wp2
      go_roundw
      case rel => exact ⟨k + 1, by omega, by go_num, HST2, he⟩
      case measure => first | (simp [intOf]; done) | (simp [intOf]; omega)
  ·obtain rfl : k = n := by omega
   obtain rfl : B = false := by rw [← hB.out, ← ha.out, List.take_of_length_le (by rw [HN.out]; exact Nat.le_refl _)]
   go_wp2
   go_ret
   exact ⟨rfl, he.out.bel⟩
set_option maxRecDepth 100000 in
set_option maxHeartbeats 4000000 in
theorem rcperm_at (x : TV) (T : Tb) (p : Option Addr) (cap : Nat) (zs : List Int) (i : Int) (R : Bool) (w : World) (hx : TabV w x T) (hcap : CapOf x) (hin : IntsIn w p zs) (hl : zs.length ≤ 17592186043904) (hR : Hid (cpeR T zs i = R)) :
 Calls Tryz.prog 73 #[x.agg, .slice p zs.length cap, .int .i64 i] w (Gives (.bool R) w) := by
 obtain ⟨A, hA⟩ : ∃ A, Hid (accE T zs = A) := ⟨_, rfl⟩
 have HE := Lib.hid (Env.new hx)
 have HI := Lib.hid hin
 have hac := fun W (h1 : TabV W x T) h2 => racce_at x T p cap zs A W h1 hcap h2 hl hA
 obtain ⟨n, hn⟩ : ∃ n, zs.length = n := ⟨_, rfl⟩
 rw [hn] at hl hac ⊢
 have HN := Lib.hid hn
 have HAC := Lib.hid hac
 clear hx hin hn hac
 have HNN := HN.out
 simp only [TV.agg]
 go_enter Tryz.func73, Tryz.ntmps73
 by_cases h1 : i < 0
 ·have d1 : decide (i < 0) = true := decide_eq_true h1
  obtain rfl : R = false := by rw [← hR.out]; unfold cpeR; rw [decide_eq_false (show ¬ okI T zs i from fun h => by have := h.1; omega)]; rfl
  go_wp2
  go_ret
  exact ⟨rfl, HE.out.bel⟩
 ·have d1 : decide (i < 0) = false := decide_eq_false h1
  by_cases h2 : (n : Int) ≤ i
  ·have d2 : decide ((n : Int) ≤ i) = true := decide_eq_true h2
   obtain rfl : R = false := by rw [← hR.out]; unfold cpeR; rw [decide_eq_false (show ¬ okI T zs i from fun h => by have := h.2.1; omega)]; rfl
   go_wp2
   go_ret
   exact ⟨rfl, HE.out.bel⟩
  ·have d2 : decide ((n : Int) ≤ i) = false := decide_eq_false h2
   obtain ⟨m, rfl⟩ : ∃ m : Nat, i = m := ⟨i.toNat, by omega⟩
   have hm : m < n := by omega
   obtain ⟨⟨k0, k1, k2, k3, k4, k5⟩, ⟨k6, k7, k8, k9, k10, k11⟩⟩ := HE.out.box.load
   go_wp2_with fail
   refine (HAC.out _ HE.out.tab (HI.out.below HE.out.bel)).mono ?_
   rintro e w1 ⟨rfl, hb1⟩
   replace HE := Lib.hid (HE.out.step hb1)
   clear hb1
   clear k0 k1 k2 k3 k4 k5 k6 k7 k8 k9 k10 k11
   by_cases h0 : A = 0
   ·subst h0
    have HRR : Hid (ctxB T zs m = R) := by unfold Hid; rw [← cpeR_ok (by rw [HN.out]; exact hm) hA.out]; exact hR.out
    have hml : m < zs.length := by rw [HN.out]; exact hm
    have hn4 : n ≤ 4096 := by rw [← HN.out]; exact (accE_ok hA.out).2.1
    have HSC : Hid (spOk T.scr = true) := r2_scr (check_rules (accE_ok hA.out).1).2.1
    obtain ⟨b, off, rfl, hck⟩ := (HI.out.below HE.out.bel) m hml
    obtain ⟨c, hc⟩ : ∃ c, zs.getD m 0 = c := ⟨_, rfl⟩
    rw [hc] at hck
    have HPM : Hid (R = (if c = 183 then decide (prvC zs m = 108) && decide (nxtC zs m = 108) else if c = 885 then decide (m + 1 < zs.length) && decide (scrT T (zs.getD (m + 1) 0) = 4) else if c = 1523 ∨ c = 1524 then decide (0 < m) && decide (scrT T (zs.getD (m - 1) 0) = 11) else if c = 12539 then zs.any (kanB T) else if arB c = true then !zs.any exB else if exB c = true then !zs.any arB else true)) := by
     unfold Hid; rw [← HRR.out]; unfold ctxB; simp only; rw [hc]
    have i0 : (0 : Int) ≤ (m : Int) := by omega
    have i1 : (m : Int) < (n : Int) := by omega
    clear hR hc hA HRR
    go_upto_region 4 with (fail)
    generalize w1 = W1 at HE hck ⊢
    clear hck
    by_cases h183 : c = 183
    ·subst h183
     replace HPM := HPM.out
     rw [if_pos rfl] at HPM
     replace HPM := Lib.hid HPM
     obtain ⟨a, ha⟩ : ∃ a, Hid (atC zs ((m : Int) - 1) = a) := ⟨_, rfl⟩
     obtain ⟨d, hd⟩ : ∃ a, Hid (atC zs ((m : Int) + 1) = a) := ⟨_, rfl⟩
     have HRA : Hid (R = (decide (a = 108) && decide (d = 108))) := by unfold Hid; rw [HPM.out, ← ha.out, ← hd.out, atC_prv, atC_nxt]
     have s1 : IntKind.i64.wrap ((m : Int) - 1) = (m : Int) - 1 := IntWalk.i64_in _ (by omega)
     have s2 : IntKind.i64.wrap ((m : Int) + 1) = (m : Int) + 1 := IntWalk.i64_in _ (by omega)
     clear HPM
     go_wp2_with fail
     refine (rat_at _ n cap zs _ a _ (HI.out.below HE.out.bel) HN ha).mono ?_
     rintro e w2 ⟨rfl, hb⟩
     replace HE := Lib.hid (HE.out.step hb)
     clear hb
     by_cases ha1 : a = 108
     ·have da : (a == 108) = true := by simp [ha1]
      obtain rfl : R = (d == 108) := by rw [HRA.out, decide_eq_true ha1, Bool.true_and]; by_cases h : d = 108 <;> simp [h]
      clear HRA ha1
      go_wp2_with fail
      refine (rat_at _ n cap zs _ d _ (HI.out.below HE.out.bel) HN hd).mono ?_
      rintro e w3 ⟨rfl, hb⟩
      replace HE := Lib.hid (HE.out.step hb)
      clear hb
      go_wp2
      go_ret
      exact ⟨rfl, HE.out.bel⟩
     ·have da : (a == 108) = false := by simp [ha1]
      obtain rfl : R = false := by rw [HRA.out, decide_eq_false ha1]; rfl
      clear HRA ha1
      go_wp2
      go_ret
      exact ⟨rfl, HE.out.bel⟩
    ·have d183 : (c == 183) = false := by simp [h183]
     by_cases h885 : c = 885
     ·subst h885
      replace HPM := HPM.out
      rw [if_neg (by decide), if_pos rfl] at HPM
      replace HPM := Lib.hid HPM
      go_upto_region 7 with (fail)
      by_cases hnb : m + 1 < n
      ·obtain ⟨k', hk'⟩ : ∃ j, j = m + 1 := ⟨_, rfl⟩
       obtain ⟨b2, off2, e2, hc2⟩ := (HI.out.below HE.out.bel) k' (by rw [HN.out]; omega)
       injection e2 with e2
       injection e2 with e2 e3 _
       subst e2
       subst e3
       obtain ⟨c2, hcc2⟩ : ∃ c, zs.getD k' 0 = c := ⟨_, rfl⟩
       rw [hcc2] at hc2
       obtain ⟨z, hz⟩ : ∃ z, Hid (scrT T c2 = z) := ⟨_, rfl⟩
       obtain rfl : R = (z == 4) := by
        rw [HPM.out]
        rw [decide_eq_true (show m + 1 < zs.length by rw [HN.out]; exact hnb), Bool.true_and, ← hk', hcc2, hz.out]
        by_cases h : z = 4 <;> simp [h]
       have s1 : IntKind.i64.wrap ((m : Int) + 1) = (k' : Int) := (IntWalk.i64_in _ (by omega)).trans (by omega)
       have g1 : decide ((k' : Int) < (n : Int)) = true := decide_eq_true (by omega)
       have j0 : (0 : Int) ≤ (k' : Int) := by omega
       have j1 : (k' : Int) < (n : Int) := by omega
       have K20 := fun p => layB_cell hc2 p
       have cc := fun p => layB_call (p := p) fun W2 hW2 => rscr_at x T c2 z W2 (HE.out.tab.below hW2) HSC.out hz
       simp only [TV.agg] at cc
       have CC := Lib.hid cc
       clear cc hcc2 hc2 hk' HPM hnb
       obtain ⟨⟨k0, k1, k2, k3, k4, k5⟩, ⟨k6, k7, k8, k9, k10, k11⟩⟩ := HE.out.box.load
       have K0 := fun p => layB_cell k0 p
       have K1 := fun p => layB_cell k1 p
       have K2 := fun p => layB_cell k2 p
       have K3 := fun p => layB_cell k3 p
       have K4 := fun p => layB_cell k4 p
       have K5 := fun p => layB_cell k5 p
       have K6 := fun p => layB_cell k6 p
       have K7 := fun p => layB_cell k7 p
       have K8 := fun p => layB_cell k8 p
       have K9 := fun p => layB_cell k9 p
       have K10 := fun p => layB_cell k10 p
       have K11 := fun p => layB_cell k11 p
       clear k0 k1 k2 k3 k4 k5 k6 k7 k8 k9 k10 k11
       refine wp_region_layB (by kernel_rfl) (by kernel_rfl) ?_
       repeat (go_big_quiet_step ((go_at_call 102; with_reducible exact CC.out _)))
       refine wpQuiet_nil ?_
       intro _ hw'
       obtain ⟨pq, hw''⟩ := hw'
       subst hw''
       have HE3 := Lib.hid (HE.out.step (layB_below W1 pq))
       generalize layB W1 pq = W3 at HE3 ⊢
       go_wp2_with fail
       go_ret
       exact ⟨rfl, HE3.out.bel⟩
      ·obtain rfl : R = false := by rw [HPM.out, show decide (m + 1 < zs.length) = false from decide_eq_false (by rw [HN.out]; exact hnb)]; rfl
       obtain ⟨k', hk'⟩ : ∃ j, j = m + 1 := ⟨_, rfl⟩
       have s1 : IntKind.i64.wrap ((m : Int) + 1) = (k' : Int) := (IntWalk.i64_in _ (by omega)).trans (by omega)
       have g1 : decide ((k' : Int) < (n : Int)) = false := decide_eq_false (by omega)
       have hk1 : ¬ k' < n := by omega
       clear hk'
       clear HPM hnb
       refine wp_region_layB (by kernel_rfl) (by kernel_rfl) ?_
       repeat (go_big_quiet_step (fail))
       refine wpQuiet_nil ?_
       intro _ hw'
       obtain ⟨pq, hw''⟩ := hw'
       subst hw''
       have HE3 := Lib.hid (HE.out.step (layB_below W1 pq))
       generalize layB W1 pq = W3 at HE3 ⊢
       go_wp2_with fail
       go_ret
       exact ⟨rfl, HE3.out.bel⟩
     ·have d885 : (c == 885) = false := by simp [h885]
      by_cases h1523 : c = 1523
      ·subst h1523
       replace HPM := HPM.out
       rw [if_neg (by decide), if_neg (by decide), if_pos (.inl rfl)] at HPM
       replace HPM := Lib.hid HPM
       go_upto_region 9 with (fail)
       by_cases hnb : 0 < m
       ·obtain ⟨k', hk'⟩ : ∃ j, j = m - 1 := ⟨_, rfl⟩
        obtain ⟨b2, off2, e2, hc2⟩ := (HI.out.below HE.out.bel) k' (by rw [HN.out]; omega)
        injection e2 with e2
        injection e2 with e2 e3 _
        subst e2
        subst e3
        obtain ⟨c2, hcc2⟩ : ∃ c, zs.getD k' 0 = c := ⟨_, rfl⟩
        rw [hcc2] at hc2
        obtain ⟨z, hz⟩ : ∃ z, Hid (scrT T c2 = z) := ⟨_, rfl⟩
        obtain rfl : R = (z == 11) := by
         rw [HPM.out]
         rw [decide_eq_true (show 0 < m by exact hnb), Bool.true_and, ← hk', hcc2, hz.out]
         by_cases h : z = 11 <;> simp [h]
        have s1 : IntKind.i64.wrap ((m : Int) - 1) = (k' : Int) := (IntWalk.i64_in _ (by omega)).trans (by omega)
        have g1 : decide ((0 : Int) < (m : Int)) = true := decide_eq_true (by omega)
        have hk1 : 0 < m := hnb
        have j0 : (0 : Int) ≤ (k' : Int) := by omega
        have j1 : (k' : Int) < (n : Int) := by omega
        have K20 := fun p => layB_cell hc2 p
        have cc := fun p => layB_call (p := p) fun W2 hW2 => rscr_at x T c2 z W2 (HE.out.tab.below hW2) HSC.out hz
        simp only [TV.agg] at cc
        have CC := Lib.hid cc
        clear cc hcc2 hc2 hk' HPM hnb
        obtain ⟨⟨k0, k1, k2, k3, k4, k5⟩, ⟨k6, k7, k8, k9, k10, k11⟩⟩ := HE.out.box.load
        have K0 := fun p => layB_cell k0 p
        have K1 := fun p => layB_cell k1 p
        have K2 := fun p => layB_cell k2 p
        have K3 := fun p => layB_cell k3 p
        have K4 := fun p => layB_cell k4 p
        have K5 := fun p => layB_cell k5 p
        have K6 := fun p => layB_cell k6 p
        have K7 := fun p => layB_cell k7 p
        have K8 := fun p => layB_cell k8 p
        have K9 := fun p => layB_cell k9 p
        have K10 := fun p => layB_cell k10 p
        have K11 := fun p => layB_cell k11 p
        clear k0 k1 k2 k3 k4 k5 k6 k7 k8 k9 k10 k11
        refine wp_region_layB (by kernel_rfl) (by kernel_rfl) ?_
        repeat (go_big_quiet_step ((go_at_call 102; with_reducible exact CC.out _)))
        refine wpQuiet_nil ?_
        intro _ hw'
        obtain ⟨pq, hw''⟩ := hw'
        subst hw''
        have HE3 := Lib.hid (HE.out.step (layB_below W1 pq))
        generalize layB W1 pq = W3 at HE3 ⊢
        go_wp2_with fail
        go_ret
        exact ⟨rfl, HE3.out.bel⟩
       ·obtain rfl : R = false := by rw [HPM.out, show decide (0 < m) = false from decide_eq_false hnb]; rfl
        have g1 : decide ((0 : Int) < (m : Int)) = false := decide_eq_false (by omega)
        have hk1 : ¬ 0 < m := hnb
        clear HPM hnb
        refine wp_region_layB (by kernel_rfl) (by kernel_rfl) ?_
        repeat (go_big_quiet_step (fail))
        refine wpQuiet_nil ?_
        intro _ hw'
        obtain ⟨pq, hw''⟩ := hw'
        subst hw''
        have HE3 := Lib.hid (HE.out.step (layB_below W1 pq))
        generalize layB W1 pq = W3 at HE3 ⊢
        go_wp2_with fail
        go_ret
        exact ⟨rfl, HE3.out.bel⟩
      ·have d1523 : (c == 1523) = false := by simp [h1523]
       by_cases h1524 : c = 1524
       ·subst h1524
        replace HPM := HPM.out
        rw [if_neg (by decide), if_neg (by decide), if_pos (.inr rfl)] at HPM
        replace HPM := Lib.hid HPM
        go_upto_region 9 with (fail)
        by_cases hnb : 0 < m
        ·obtain ⟨k', hk'⟩ : ∃ j, j = m - 1 := ⟨_, rfl⟩
         obtain ⟨b2, off2, e2, hc2⟩ := (HI.out.below HE.out.bel) k' (by rw [HN.out]; omega)
         injection e2 with e2
         injection e2 with e2 e3 _
         subst e2
         subst e3
         obtain ⟨c2, hcc2⟩ : ∃ c, zs.getD k' 0 = c := ⟨_, rfl⟩
         rw [hcc2] at hc2
         obtain ⟨z, hz⟩ : ∃ z, Hid (scrT T c2 = z) := ⟨_, rfl⟩
         obtain rfl : R = (z == 11) := by
          rw [HPM.out]
          rw [decide_eq_true (show 0 < m by exact hnb), Bool.true_and, ← hk', hcc2, hz.out]
          by_cases h : z = 11 <;> simp [h]
         have s1 : IntKind.i64.wrap ((m : Int) - 1) = (k' : Int) := (IntWalk.i64_in _ (by omega)).trans (by omega)
         have g1 : decide ((0 : Int) < (m : Int)) = true := decide_eq_true (by omega)
         have hk1 : 0 < m := hnb
         have j0 : (0 : Int) ≤ (k' : Int) := by omega
         have j1 : (k' : Int) < (n : Int) := by omega
         have K20 := fun p => layB_cell hc2 p
         have cc := fun p => layB_call (p := p) fun W2 hW2 => rscr_at x T c2 z W2 (HE.out.tab.below hW2) HSC.out hz
         simp only [TV.agg] at cc
         have CC := Lib.hid cc
         clear cc hcc2 hc2 hk' HPM hnb
         obtain ⟨⟨k0, k1, k2, k3, k4, k5⟩, ⟨k6, k7, k8, k9, k10, k11⟩⟩ := HE.out.box.load
         have K0 := fun p => layB_cell k0 p
         have K1 := fun p => layB_cell k1 p
         have K2 := fun p => layB_cell k2 p
         have K3 := fun p => layB_cell k3 p
         have K4 := fun p => layB_cell k4 p
         have K5 := fun p => layB_cell k5 p
         have K6 := fun p => layB_cell k6 p
         have K7 := fun p => layB_cell k7 p
         have K8 := fun p => layB_cell k8 p
         have K9 := fun p => layB_cell k9 p
         have K10 := fun p => layB_cell k10 p
         have K11 := fun p => layB_cell k11 p
         clear k0 k1 k2 k3 k4 k5 k6 k7 k8 k9 k10 k11
         refine wp_region_layB (by kernel_rfl) (by kernel_rfl) ?_
         repeat (go_big_quiet_step ((go_at_call 102; with_reducible exact CC.out _)))
         refine wpQuiet_nil ?_
         intro _ hw'
         obtain ⟨pq, hw''⟩ := hw'
         subst hw''
         have HE3 := Lib.hid (HE.out.step (layB_below W1 pq))
         generalize layB W1 pq = W3 at HE3 ⊢
         go_wp2_with fail
         go_ret
         exact ⟨rfl, HE3.out.bel⟩
        ·obtain rfl : R = false := by rw [HPM.out, show decide (0 < m) = false from decide_eq_false hnb]; rfl
         have g1 : decide ((0 : Int) < (m : Int)) = false := decide_eq_false (by omega)
         have hk1 : ¬ 0 < m := hnb
         clear HPM hnb
         refine wp_region_layB (by kernel_rfl) (by kernel_rfl) ?_
         repeat (go_big_quiet_step (fail))
         refine wpQuiet_nil ?_
         intro _ hw'
         obtain ⟨pq, hw''⟩ := hw'
         subst hw''
         have HE3 := Lib.hid (HE.out.step (layB_below W1 pq))
         generalize layB W1 pq = W3 at HE3 ⊢
         go_wp2_with fail
         go_ret
         exact ⟨rfl, HE3.out.bel⟩
       ·have d1524 : (c == 1524) = false := by simp [h1524]
        by_cases h12539 : c = 12539
        ·subst h12539
         replace HPM := HPM.out
         rw [if_neg (by decide), if_neg (by decide), if_neg (by decide), if_pos rfl] at HPM
         replace HPM := Lib.hid HPM
         obtain ⟨Y, hY⟩ : ∃ Y, Hid (zs.any (kanB T) = Y) := ⟨_, rfl⟩
         obtain rfl : R = Y := by rw [HPM.out, hY.out]
         clear HPM
         obtain ⟨⟨k0, k1, k2, k3, k4, k5⟩, ⟨k6, k7, k8, k9, k10, k11⟩⟩ := HE.out.box.load
         go_wp2_with fail
         refine (rkana_at x T _ n cap zs _ _ HE.out.tab HSC.out (HI.out.below HE.out.bel) HN hl hY).mono ?_
         rintro e w2 ⟨rfl, hb⟩
         replace HE := Lib.hid (HE.out.step hb)
         clear hb
         clear k0 k1 k2 k3 k4 k5 k6 k7 k8 k9 k10 k11
         go_wp2
         go_ret
         exact ⟨rfl, HE.out.bel⟩
        ·have d12539 : (c == 12539) = false := by simp [h12539]
         obtain ⟨B1, hB1⟩ : ∃ B1, Hid (arB c = B1) := ⟨_, rfl⟩
         obtain ⟨B2, hB2⟩ : ∃ B2, Hid (exB c = B2) := ⟨_, rfl⟩
         replace HPM := HPM.out
         rw [if_neg h183, if_neg h885, if_neg (fun h => h.elim h1523 h1524), if_neg h12539, hB1.out, hB2.out] at HPM
         replace HPM := Lib.hid HPM
         clear h183 h885 h1523 h1524 h12539
         go_wp2_with fail
         refine (rin_at c 1632 1641 B1 _ hB1).mono ?_
         rintro e w2 ⟨rfl, hb⟩
         replace HE := Lib.hid (HE.out.step hb)
         clear hb
         cases B1 with
         | true =>
          replace HPM := HPM.out
          rw [if_pos rfl] at HPM
          obtain ⟨Y, hY⟩ : ∃ Y, Hid (zs.any exB = Y) := ⟨_, rfl⟩
          obtain rfl : R = !Y := by rw [HPM, hY.out]
          clear HPM
          go_wp2_with fail
          refine (rsome_at 1776 1785 exB (fun _ => rfl) _ n cap zs Y _ (HI.out.below HE.out.bel) HN hl hY).mono ?_
          rintro e w3 ⟨rfl, hb⟩
          replace HE := Lib.hid (HE.out.step hb)
          clear hb
          go_wp2
          go_ret
          exact ⟨rfl, HE.out.bel⟩
         | false =>
          replace HPM := HPM.out
          rw [if_neg (by simp)] at HPM
          replace HPM := Lib.hid HPM
          go_wp2_with fail
          refine (rin_at c 1776 1785 B2 _ hB2).mono ?_
          rintro e w3 ⟨rfl, hb⟩
          replace HE := Lib.hid (HE.out.step hb)
          clear hb
          cases B2 with
          | true =>
           replace HPM := HPM.out
           rw [if_pos rfl] at HPM
           obtain ⟨Y, hY⟩ : ∃ Y, Hid (zs.any arB = Y) := ⟨_, rfl⟩
           obtain rfl : R = !Y := by rw [HPM, hY.out]
           clear HPM
           go_wp2_with fail
           refine (rsome_at 1632 1641 arB (fun _ => rfl) _ n cap zs Y _ (HI.out.below HE.out.bel) HN hl hY).mono ?_
           rintro e w4 ⟨rfl, hb⟩
           replace HE := Lib.hid (HE.out.step hb)
           clear hb
           go_wp2
           go_ret
           exact ⟨rfl, HE.out.bel⟩
          | false =>
           replace HPM := HPM.out
           rw [if_neg (by simp)] at HPM
           subst HPM
           go_wp2
           go_ret
           exact ⟨rfl, HE.out.bel⟩
   ·have d0 : (A != 0) = true := by simp [h0]
    obtain rfl : R = false := by rw [← hR.out]; unfold cpeR; rw [decide_eq_false (show ¬ okI T zs m from fun h => h0 (hA.out.symm.trans h.2.2))]; rfl
    clear h0
    go_wp2
    go_ret
    exact ⟨rfl, HE.out.bel⟩
set_option maxRecDepth 100000 in
set_option maxHeartbeats 4000000 in
theorem rccheck_at (x : TV) (T : Tb) (p : Option Addr) (cap : Nat) (zs : List Int) (K E : Int) (w : World) (hx : TabV w x T) (hcap : CapOf x) (hin : IntsIn w p zs) (hl : zs.length ≤ 17592186043904) (hR : Hid (chkC T zs = (K, E))) :
 Calls Tryz.prog 46 #[x.agg, .slice p zs.length cap] w (Gives (.tuple #[.int .i64 K, .int .i64 E]) w) := by
 obtain ⟨A, hA⟩ : ∃ A, Hid (accE T zs = A) := ⟨_, rfl⟩
 have HE := Lib.hid (Env.new hx)
 have HI := Lib.hid hin
 have hac := fun W (h1 : TabV W x T) h2 => racce_at x T p cap zs A W h1 hcap h2 hl hA
 have hpc := fun (k : Nat) R W (h1 : TabV W x T) h2 hR => rcperm_at x T p cap zs k R W h1 hcap h2 hl hR
 obtain ⟨n, hn⟩ : ∃ n, zs.length = n := ⟨_, rfl⟩
 rw [hn] at hl hac hpc ⊢
 have HN := Lib.hid hn
 have HAC := Lib.hid hac
 have HPC := Lib.hid hpc
 clear hx hin hn hcap hpc hac
 simp only [TV.agg]
 go_enter Tryz.func46, Tryz.ntmps46
 obtain ⟨⟨k0, k1, k2, k3, k4, k5⟩, ⟨k6, k7, k8, k9, k10, k11⟩⟩ := HE.out.box.load
 go_wp2_with fail
 refine (HAC.out _ HE.out.tab (HI.out.below HE.out.bel)).mono ?_
 rintro e w1 ⟨rfl, hb1⟩
 replace HE := Lib.hid (HE.out.step hb1)
 clear hb1
 clear k0 k1 k2 k3 k4 k5 k6 k7 k8 k9 k10 k11
 by_cases h0 : A = 0
 ·subst h0
  go_wp2
  go_loopw [16] (fun i wr => ∃ k : Nat, k ≤ n ∧ i = .int .i64 k ∧ Hid (∀ j, j < k → ctxB T zs j = true) ∧ Hid (Env w x T wr)) (fun i _ => n - (intOf i).toNat)
  case atStart => exact ⟨0, Nat.zero_le _, rfl, fun j hj => by omega, HE⟩
  case round =>
   obtain ⟨k, hk, rfl, hgd, he⟩ := hrel
   by_cases hlt : k < n
   ·have hkl : k < zs.length := by rw [HN.out]; exact hlt
    obtain ⟨B, hB⟩ : ∃ B, Hid (cpeR T zs k = B) := ⟨_, rfl⟩
    have hB2 := hB.out
    rw [cpeR_ok hkl hA.out] at hB2
    obtain ⟨⟨k0, k1, k2, k3, k4, k5⟩, ⟨k6, k7, k8, k9, k10, k11⟩⟩ := he.out.box.load
    go_wp2_with fail
    refine (HPC.out k B _ he.out.tab (HI.out.below he.out.bel) hB).mono ?_
    rintro e w2 ⟨rfl, hb⟩
    replace he := Lib.hid (he.out.step hb)
    clear hb
    clear k0 k1 k2 k3 k4 k5 k6 k7 k8 k9 k10 k11
    cases B with
    | true =>
     have HGD2 : Hid (∀ j, j < k + 1 → ctxB T zs j = true) := fun j hj => by
      by_cases e : j = k
      ·rw [e]; exact hB2
      ·exact hgd.out j (by omega)
     clear hB2
     go_wp2
     go_roundw
     case rel => exact ⟨k + 1, by omega, by go_num, HGD2, he⟩
     case measure => first | (simp [intOf]; done) | (simp [intOf]; omega)
    | false =>
     have hbd : badC T zs zs.length 0 = some k := badC_first zs.length 0 k (by omega) (by omega) (fun j _ h => hgd.out j h) hB2
     have hR2 := hR.out
     unfold chkC at hR2
     rw [if_neg (by rw [hA.out]; simp), hbd] at hR2
     injection hR2 with e1 e2
     subst e1
     subst e2
     clear hB2 hbd
     go_wp2
     go_ret2
     exact ⟨rfl, he.out.bel⟩
   ·obtain rfl : k = n := by omega
    have hbd : badC T zs zs.length 0 = none := (badC_none T zs _ 0).2 fun j _ h => hgd.out j (by rw [HN.out] at h; omega)
    have hR2 := hR.out
    unfold chkC at hR2
    rw [if_neg (by rw [hA.out]; simp), hbd] at hR2
    injection hR2 with e1 e2
    subst e1
    subst e2
    clear hbd
    go_wp2
    go_ret2
    exact ⟨rfl, he.out.bel⟩
 ·have d0 : (A != 0) = true := by simp [h0]
  have hR2 := hR.out
  unfold chkC at hR2
  rw [if_pos (by rw [hA.out]; exact h0), hA.out] at hR2
  injection hR2 with e1 e2
  subst e1
  subst e2
  clear h0
  go_wp2
  go_ret2
  exact ⟨rfl, HE.out.bel⟩
end Go.Proofs.YtopaojjodkoidaaGreatDoor
