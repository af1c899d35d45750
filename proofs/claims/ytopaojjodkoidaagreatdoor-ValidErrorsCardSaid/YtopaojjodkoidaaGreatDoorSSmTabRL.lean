/-
  The references of table: Composable.
-/
import Derived.Test.YtopaojjodkoidaaGreatDoorSSmTabRM
set_option linter.unusedSimpArgs false
set_option linter.unusedVariables false
namespace Go.Proofs.YtopaojjodkoidaaGreatDoor
open Go.RowKit
set_option maxRecDepth 100000 in
set_option maxHeartbeats 16000000 in
theorem rcomp_at (T : Tb) (H : CmpH T) (h18 : ∀ m ∈ T.dec, m.2.length ≤ 18) (k : Nat) : ∀ (x : TV) (f : Int) (w : World), Dp T.dec k f → TabV w x T →
 Calls Tryz.prog 77 #[x.agg, .int .i64 f] w (Gives (.bool (compT T f)) w) := by
 have HH := Lib.hid H
 have HD := Lib.hid h18
 clear H h18
 induction k with
 | zero =>
  intro x f w hd hx
  exact rcomp_short x T f [] w hx (show findM T.dec f = [] from hd) (by simp)
 | succ k ih0 =>
  have IH := Lib.hid ih0
  clear ih0
  intro x f w hd hx
  obtain ⟨y, hf⟩ : ∃ y, Hid (findM T.dec f = y) := ⟨_, rfl⟩
  by_cases hy : y.length = 2
  ·obtain ⟨a, b, rfl⟩ : ∃ a b, y = [a, b] := by
    match y, hy with
    | [a, b], _ => exact ⟨a, b, rfl⟩
   have hcomp := compT_two (HH.out.dp f) hf.out
   have hda : Dp T.dec k a := hd a (by rw [hf.out]; simp)
   obtain ⟨C, hC⟩ : ∃ C, compT T f = C := ⟨_, rfl⟩
   obtain ⟨BX, hBX⟩ : ∃ B, Hid (excT T f = B) := ⟨_, rfl⟩
   obtain ⟨zf, hzf⟩ : ∃ z, Hid (clsT T f = z) := ⟨_, rfl⟩
   obtain ⟨za, hza⟩ : ∃ z, Hid (clsT T a = z) := ⟨_, rfl⟩
   obtain ⟨zb, hzb⟩ : ∃ z, Hid (clsT T b = z) := ⟨_, rfl⟩
   obtain ⟨fb, hfb⟩ : ∃ l, Hid (findM T.dec b = l) := ⟨_, rfl⟩
   obtain ⟨fa, hfa⟩ : ∃ l, Hid (findM T.dec a = l) := ⟨_, rfl⟩
   obtain ⟨Ca, hCa⟩ : ∃ B, Hid (compT T a = B) := ⟨_, rfl⟩
   obtain ⟨zl, hzl⟩ : ∃ z, Hid (clsT T (lastF T.dec a) = z) := ⟨_, rfl⟩
   rw [hBX.out, hzf.out, hza.out, hzb.out, has_find HH.out b, has_find HH.out a, hfb.out, hfa.out, hCa.out, hzl.out, hC] at hcomp
   rw [hC]
   have HCOMP := Lib.hid hcomp
   have HDA := Lib.hid hda
   have HE := Lib.hid (Env.new hx)
   have k9 := HE.out.at9
   clear hcomp hC hda hd hx
   simp only [TV.agg]
   go_enter Tryz.func77, Tryz.ntmps77
   go_wp2_with fail
   refine (rfind_at x.a9 T.dec f [a, b] _ HE.out.tab.dec hf).mono ?_
   rintro e w1 ⟨p, n, cp, rfl, hn, _, hin, hb⟩
   obtain rfl : 2 = n := hn
   obtain ⟨b3, off3, rfl, q0⟩ := hin 0 (by simp)
   obtain ⟨b3', off3', e3, q1⟩ := hin 1 (by simp)
   injection e3 with e3
   injection e3 with e4 e5
   subst e4; subst e5
   simp only [List.getD_cons_zero, List.getD_cons_succ, Nat.add_zero] at q0 q1
   have HE1 : Hid (Env2 w x T b3 off3 a b w1) := ⟨HE.out.step hb, q0, q1⟩
   clear hb k9 hin q0 q1
   obtain ⟨k0, k1, k2, k3, k4, k5, k6, k7, k8, k9, k10, k11, d0, d1⟩ := HE1.out.cells
   obtain ⟨pb, nb, cb, hnb, hnb2, hinb, hfindb0⟩ := rfind_val x.a9 T.dec b fb w1 HE1.out.env.tab.dec hfb.out
   obtain ⟨pa, na, ca, hna, hna2, hina, hfinda0⟩ := rfind_val x.a9 T.dec a fa w1 HE1.out.env.tab.dec hfa.out
   have hfindb := Lib.hid hfindb0
   have hfinda := Lib.hid hfinda0
   have HNB := Lib.hid hnb
   have HNA := Lib.hid hna
   have K0 := fun p => layB_cell k0 p
   have K1 := fun p => layB_cell k1 p
   have K2 := fun p => layB_cell k2 p
   have K3 := fun p => layB_cell k3 p
   have K4 := fun p => layB_cell k4 p
   have K5 := fun p => layB_cell k5 p
   have K6 := fun p => layB_cell k6 p
   have K7 := fun p => layB_cell k7 p
   have K8 := fun p => layB_cell k8 p
   have K9 := fun p => layB_cell k9 p
   have K10 := fun p => layB_cell k10 p
   have K11 := fun p => layB_cell k11 p
   have K12 := fun p => layB_cell d0 p
   have K13 := fun p => layB_cell d1 p
   have cx0 := fun p => layB_call (w := w1) (p := p) fun W hW => rexcl_at x T f BX W (HE1.out.step hW).env.tab hBX
   have cf0 := fun p => layB_call (w := w1) (p := p) fun W hW => rclass_at x T f zf W (HE1.out.step hW).env.tab hzf
   have ca0 := fun p => layB_call (w := w1) (p := p) fun W hW => rclass_at x T a za W (HE1.out.step hW).env.tab hza
   have cb0 := fun p => layB_call (w := w1) (p := p) hfindb0
   simp only [TV.agg] at cx0 cf0 ca0
   have CX := Lib.hid cx0
   have CF := Lib.hid cf0
   have CA := Lib.hid ca0
   have CB := Lib.hid cb0
   clear cx0 cf0 ca0 cb0
   clear hfindb0 hfinda0 hnb hna hinb hina hnb2 hna2
   cases BX with
   | true =>
    have HCT : Hid (C = false) := by unfold Hid; rw [HCOMP.out]; rfl
    go_wp2_with fail
    refine wp_region_layB (by kernel_rfl) (by kernel_rfl) ?_
    repeat (go_big_quiet_step (first
     | (go_at_call 110; with_reducible exact CX.out _)))
    refine wpQuiet_nil ?_
    intro _ hw'
    obtain ⟨pq, hw''⟩ := hw'
    subst hw''
    have HEq := Lib.hid (HE1.out.step (layB_below w1 pq))
    generalize layB w1 pq = wq at HEq ⊢
    go_wp2
    go_ret
    rw [HCT.out]
    exact ⟨rfl, HEq.out.env.bel⟩
   | false =>
    by_cases hz1 : zf = 0
    ·have d3 : (zf != 0) = false := by simp [hz1]
     have HZ1 := Lib.hid hz1
     clear hz1
     by_cases hz2 : za = 0
     ·have d4 : (za != 0) = false := by simp [hz2]
      have HZ2 := Lib.hid hz2
      clear hz2
      by_cases hb0 : 0 < nb
      ·have d5 : decide ((0 : Int) < nb) = true := decide_eq_true (by omega)
       have HCT : Hid (C = false) := by
        have : fb ≠ [] := fun h => by have := HNB.out; rw [h] at this; simp at this; omega
        unfold Hid; rw [HCOMP.out, decide_eq_true this]; simp
       go_wp2_with fail
       refine wp_region_layB (by kernel_rfl) (by kernel_rfl) ?_
       repeat (go_big_quiet_step (first
        | (go_at_call 110; with_reducible exact CX.out _)
        | (go_at_call 49; with_reducible exact CF.out _)
        | (go_at_call 49; with_reducible exact CA.out _)
        | (go_at_call 109; with_reducible exact CB.out _)))
       refine wpQuiet_nil ?_
       intro _ hw'
       obtain ⟨pq, hw''⟩ := hw'
       subst hw''
       have HEq := Lib.hid (HE1.out.step (layB_below w1 pq))
       generalize layB w1 pq = wq at HEq ⊢
       go_wp2
       go_ret
       rw [HCT.out]
       exact ⟨rfl, HEq.out.env.bel⟩
      ·have d5 : decide ((0 : Int) < nb) = false := decide_eq_false (by omega)
       have HB0 : Hid (fb = []) := List.eq_nil_of_length_eq_zero (by rw [HNB.out]; omega)
       go_wp2_with fail
       refine wp_region_layB (by kernel_rfl) (by kernel_rfl) ?_
       repeat (go_big_quiet_step (first
        | (go_at_call 110; with_reducible exact CX.out _)
        | (go_at_call 49; with_reducible exact CF.out _)
        | (go_at_call 49; with_reducible exact CA.out _)
        | (go_at_call 109; with_reducible exact CB.out _)))
       refine wpQuiet_nil ?_
       intro _ hw'
       obtain ⟨pq, hw''⟩ := hw'
       subst hw''
       have HQ := Lib.hid (layB_below w1 pq)
       have HE2 := Lib.hid (HE1.out.step HQ.out)
       generalize layB w1 pq = w2 at HE2 HQ ⊢
       clear K0 K1 K2 K3 K4 K5 K6 K7 K8 K9 K10 K11 K12 K13 k0 k1 k2 k3 k4 k5 k6 k7 k8 k9 k10 k11 d0 d1
       obtain ⟨k0, k1, k2, k3, k4, k5, k6, k7, k8, k9, k10, k11, d0, d1⟩ := HE2.out.cells
       have K0 := fun p => layB_cell k0 p
       have K1 := fun p => layB_cell k1 p
       have K2 := fun p => layB_cell k2 p
       have K3 := fun p => layB_cell k3 p
       have K4 := fun p => layB_cell k4 p
       have K5 := fun p => layB_cell k5 p
       have K6 := fun p => layB_cell k6 p
       have K7 := fun p => layB_cell k7 p
       have K8 := fun p => layB_cell k8 p
       have K9 := fun p => layB_cell k9 p
       have K10 := fun p => layB_cell k10 p
       have K11 := fun p => layB_cell k11 p
       have K12 := fun p => layB_cell d0 p
       have K13 := fun p => layB_cell d1 p
       have cm0 := fun p => layB_call (w := w2) (p := p) fun W hW => IH.out x a W HDA.out (HE2.out.step hW).env.tab
       have ca1 := fun p => layB_call (w := w2) (p := p) fun W hW => hfinda.out W (HQ.out.trans (hW.mono HQ.out.size))
       simp only [TV.agg, hCa.out] at cm0
       have CM := Lib.hid cm0
       have CA1 := Lib.hid ca1
       have HFU : Hid (fullR T.dec 257 [a] = some (ful T.dec a)) := by
        unfold Hid; rw [full_eq HH.out.len, if_pos (HH.out.fin a)]
       clear cm0 ca1
       by_cases ha0 : 0 < na
       ·have d6 : decide ((0 : Int) < na) = true := decide_eq_true (by omega)
        have HA0 : Hid (fa ≠ []) := fun h => by have := HNA.out; rw [h] at this; simp at this; omega
        cases Ca with
        | false =>
         have HCT : Hid (C = false) := by unfold Hid; rw [HCOMP.out, decide_eq_true HA0.out]; simp
         go_wp2_with fail
         refine wp_region_layB (by kernel_rfl) (by kernel_rfl) ?_
         repeat (go_big_quiet_step (first
          | (go_at_call 109; with_reducible exact CA1.out _)
          | (go_at_call 77; with_reducible exact CM.out _)))
         refine wpQuiet_nil ?_
         intro _ hw'
         obtain ⟨pq, hw''⟩ := hw'
         subst hw''
         have HEq := Lib.hid (HE2.out.step (layB_below w2 pq))
         generalize layB w2 pq = wq at HEq ⊢
         go_wp2
         go_ret
         rw [HCT.out]
         exact ⟨rfl, HEq.out.env.bel⟩
        | true =>
         have HCX : Hid (C = (decide (zb = 0) || decide (zl ≤ zb))) := by
          unfold Hid; rw [HCOMP.out, HZ1.out, HZ2.out, HB0.out, decide_eq_true HA0.out]; simp
         go_wp2_with fail
         refine wp_region_layB (by kernel_rfl) (by kernel_rfl) ?_
         repeat (go_big_quiet_step (first
          | (go_at_call 109; with_reducible exact CA1.out _)
          | (go_at_call 77; with_reducible exact CM.out _)))
         refine wpQuiet_nil ?_
         intro _ hw'
         obtain ⟨pq, hw''⟩ := hw'
         subst hw''
         have HWQ := Lib.hid (layB_below w2 pq)
         have HE3 := Lib.hid (HE2.out.step HWQ.out)
         generalize layB w2 pq = w3 at HE3 HWQ ⊢
         clear K0 K1 K2 K3 K4 K5 K6 K7 K8 K9 K10 K11 K12 K13 k0 k1 k2 k3 k4 k5 k6 k7 k8 k9 k10 k11 d0 d1
         obtain ⟨k0, k1, k2, k3, k4, k5, k6, k7, k8, k9, k10, k11, d0, d1⟩ := HE3.out.cells
         have HE3d := Lib.hid (HE3.out.step (drew_one w3))
         go_wp2_with fail
         go_region_held3 (fun w' => w'.cell? ⟨w.heap.size, 0, none⟩ = some x.a0 ∧ w'.cell? ⟨w.heap.size, 1, none⟩ = some x.a1 ∧ w'.cell? ⟨w.heap.size, 2, none⟩ = some x.a2 ∧ w'.cell? ⟨w.heap.size, 3, none⟩ = some x.a3 ∧ w'.cell? ⟨w.heap.size, 4, none⟩ = some x.a4 ∧ w'.cell? ⟨w.heap.size, 5, none⟩ = some x.a5 ∧ w'.cell? ⟨w.heap.size, 6, none⟩ = some x.a6 ∧ w'.cell? ⟨w.heap.size, 7, none⟩ = some x.a7 ∧ w'.cell? ⟨w.heap.size, 8, none⟩ = some x.a8 ∧ w'.cell? ⟨w.heap.size, 9, none⟩ = some x.a9 ∧ w'.cell? ⟨w.heap.size, 10, none⟩ = some x.a10 ∧ w'.cell? ⟨w.heap.size, 11, none⟩ = some x.a11 ∧ w'.cell? ⟨b3, off3, none⟩ = some (.int .i64 a) ∧ w'.cell? ⟨b3, off3 + 1, none⟩ = some (.int .i64 b))
          (first
           | go_keep
           | exact (HE3d.out.step hb4).cells)
          (first
           | (go_at_call 107; (with_reducible refine (rfull_at _ T a (some (ful T.dec a)) _ HE3d.out.env.tab HD.out HFU).mono ?_); rintro e w4 ⟨hs1, _, hb4⟩; obtain ⟨pf, nf, cf, rfl, hnf, hnf2, hif⟩ := hs1 _ rfl))
         all_goals
          have HE4 := Lib.hid (HE3d.out.step hb4)
          have HIF := Lib.hid hif
          obtain ⟨m, rfl⟩ : ∃ m, nf = m + 1 := ⟨nf - 1, by
           have : (ful T.dec a).length ≠ 0 := fun h => fulF_ne T.dec 256 a (List.eq_nil_of_length_eq_zero h)
           omega⟩
          obtain ⟨bl, offl, rfl, hcl⟩ := hif m (by rw [hnf]; omega)
          have hlast : (ful T.dec a).getD m 0 = lastF T.dec a := by
           rw [lastF, List.getLastD_eq_getLast?, List.getLast?_eq_getElem?, hnf]; simp
          rw [hlast] at hcl
          have HM18 : Hid (m < 18) := by unfold Hid; omega
          have CL0 := fun p => layB_cell hcl p
          clear hb4 hif hnf hnf2 hs1 k0 k1 k2 k3 k4 k5 k6 k7 k8 k9 k10 k11 d0 d1 hlast hcl
          obtain ⟨k0, k1, k2, k3, k4, k5, k6, k7, k8, k9, k10, k11, d0, d1⟩ := HE4.out.cells
          have K0 := fun p => layB_cell k0 p
          have K1 := fun p => layB_cell k1 p
          have K2 := fun p => layB_cell k2 p
          have K3 := fun p => layB_cell k3 p
          have K4 := fun p => layB_cell k4 p
          have K5 := fun p => layB_cell k5 p
          have K6 := fun p => layB_cell k6 p
          have K7 := fun p => layB_cell k7 p
          have K8 := fun p => layB_cell k8 p
          have K9 := fun p => layB_cell k9 p
          have K10 := fun p => layB_cell k10 p
          have K11 := fun p => layB_cell k11 p
          have K12 := fun p => layB_cell d0 p
          have K13 := fun p => layB_cell d1 p
          have hk0 : (0 : Int) ≤ (m : Int) := by omega
          have hk1 : (m : Int) < (m : Int) + 1 := by omega
          have hx1 : IntKind.i64.wrap ((m : Int) + 1 - 1) = m := by have := HM18.out; rw [IntWalk.i64_in _ (by omega)]; omega
          have hx2 : IntKind.i64.wrap (m : Int) = m := by have := HM18.out; exact IntWalk.i64_in _ (by omega)
          have cb0 := fun p => layB_call (w := w4) (p := p) fun W hW => rclass_at x T b zb W (HE4.out.step hW).env.tab hzb
          have cl0 := fun p => layB_call (w := w4) (p := p) fun W hW => rclass_at x T (lastF T.dec a) zl W (HE4.out.step hW).env.tab hzl
          simp only [TV.agg] at cb0 cl0
          have CB := Lib.hid cb0
          have CL := Lib.hid cl0
          clear cb0 cl0
          by_cases hzb0 : zb = 0
          ·have d7 : (zb == 0) = true := by simp [hzb0]
           have HCT : Hid (C = true) := by unfold Hid; rw [HCX.out, hzb0]; rfl
           clear hzb0
           go_wp2_with fail
           refine wp_region_layB (by kernel_rfl) (by kernel_rfl) ?_
           repeat (go_big_quiet_step (first
            | (go_at_call 49; with_reducible exact CB.out _)
            | (go_at_call 49; with_reducible exact CL.out _)))
           refine wpQuiet_nil ?_
           intro _ hw'
           obtain ⟨pq, hw''⟩ := hw'
           subst hw''
           have HEq := Lib.hid (HE4.out.step (layB_below w4 pq))
           generalize layB w4 pq = wq at HEq ⊢
           go_wp2
           go_ret
           rw [HCT.out]
           exact ⟨rfl, HEq.out.env.bel⟩
          ·have d7 : (zb == 0) = false := by simp [hzb0]
           have HCT : Hid (C = decide (zl ≤ zb)) := by unfold Hid; rw [HCX.out, decide_eq_false hzb0]; rfl
           clear hzb0
           go_wp2_with fail
           refine wp_region_layB (by kernel_rfl) (by kernel_rfl) ?_
           repeat (go_big_quiet_step (first
            | (go_at_call 49; with_reducible exact CB.out _)
            | (go_at_call 49; with_reducible exact CL.out _)))
           refine wpQuiet_nil ?_
           intro _ hw'
           obtain ⟨pq, hw''⟩ := hw'
           subst hw''
           have HEq := Lib.hid (HE4.out.step (layB_below w4 pq))
           generalize layB w4 pq = wq at HEq ⊢
           go_wp2
           go_ret
           exact ⟨iff_ret (by first | (rw [HCT.out]; done) | (rw [HCT.out]; simp; done) | (rw [HCT.out]; simp; omega)), HEq.out.env.bel⟩
       ·have d6 : decide ((0 : Int) < na) = false := decide_eq_false (by omega)
        have HA0 : Hid (fa = []) := List.eq_nil_of_length_eq_zero (by rw [HNA.out]; omega)
        have HCX : Hid (C = (decide (zb = 0) || decide (zl ≤ zb))) := by
         unfold Hid; rw [HCOMP.out, HZ1.out, HZ2.out, HB0.out, HA0.out]; simp
        go_wp2_with fail
        refine wp_region_layB (by kernel_rfl) (by kernel_rfl) ?_
        repeat (go_big_quiet_step (first
         | (go_at_call 109; with_reducible exact CA1.out _)))
        refine wpQuiet_nil ?_
        intro _ hw'
        obtain ⟨pq, hw''⟩ := hw'
        subst hw''
        have HWQ := Lib.hid (layB_below w2 pq)
        have HE3 := Lib.hid (HE2.out.step HWQ.out)
        generalize layB w2 pq = w3 at HE3 HWQ ⊢
        clear K0 K1 K2 K3 K4 K5 K6 K7 K8 K9 K10 K11 K12 K13 k0 k1 k2 k3 k4 k5 k6 k7 k8 k9 k10 k11 d0 d1
        obtain ⟨k0, k1, k2, k3, k4, k5, k6, k7, k8, k9, k10, k11, d0, d1⟩ := HE3.out.cells
        have HE3d := Lib.hid (HE3.out.step (drew_one w3))
        go_wp2_with fail
        go_region_held3 (fun w' => w'.cell? ⟨w.heap.size, 0, none⟩ = some x.a0 ∧ w'.cell? ⟨w.heap.size, 1, none⟩ = some x.a1 ∧ w'.cell? ⟨w.heap.size, 2, none⟩ = some x.a2 ∧ w'.cell? ⟨w.heap.size, 3, none⟩ = some x.a3 ∧ w'.cell? ⟨w.heap.size, 4, none⟩ = some x.a4 ∧ w'.cell? ⟨w.heap.size, 5, none⟩ = some x.a5 ∧ w'.cell? ⟨w.heap.size, 6, none⟩ = some x.a6 ∧ w'.cell? ⟨w.heap.size, 7, none⟩ = some x.a7 ∧ w'.cell? ⟨w.heap.size, 8, none⟩ = some x.a8 ∧ w'.cell? ⟨w.heap.size, 9, none⟩ = some x.a9 ∧ w'.cell? ⟨w.heap.size, 10, none⟩ = some x.a10 ∧ w'.cell? ⟨w.heap.size, 11, none⟩ = some x.a11 ∧ w'.cell? ⟨b3, off3, none⟩ = some (.int .i64 a) ∧ w'.cell? ⟨b3, off3 + 1, none⟩ = some (.int .i64 b))
         (first
          | go_keep
          | exact (HE3d.out.step hb4).cells)
         (first
          | (go_at_call 107; (with_reducible refine (rfull_at _ T a (some (ful T.dec a)) _ HE3d.out.env.tab HD.out HFU).mono ?_); rintro e w4 ⟨hs1, _, hb4⟩; obtain ⟨pf, nf, cf, rfl, hnf, hnf2, hif⟩ := hs1 _ rfl))
        all_goals
         have HE4 := Lib.hid (HE3d.out.step hb4)
         have HIF := Lib.hid hif
         obtain ⟨m, rfl⟩ : ∃ m, nf = m + 1 := ⟨nf - 1, by
          have : (ful T.dec a).length ≠ 0 := fun h => fulF_ne T.dec 256 a (List.eq_nil_of_length_eq_zero h)
          omega⟩
         obtain ⟨bl, offl, rfl, hcl⟩ := hif m (by rw [hnf]; omega)
         have hlast : (ful T.dec a).getD m 0 = lastF T.dec a := by
          rw [lastF, List.getLastD_eq_getLast?, List.getLast?_eq_getElem?, hnf]; simp
         rw [hlast] at hcl
         have HM18 : Hid (m < 18) := by unfold Hid; omega
         have CL0 := fun p => layB_cell hcl p
         clear hb4 hif hnf hnf2 hs1 k0 k1 k2 k3 k4 k5 k6 k7 k8 k9 k10 k11 d0 d1 hlast hcl
         obtain ⟨k0, k1, k2, k3, k4, k5, k6, k7, k8, k9, k10, k11, d0, d1⟩ := HE4.out.cells
         have K0 := fun p => layB_cell k0 p
         have K1 := fun p => layB_cell k1 p
         have K2 := fun p => layB_cell k2 p
         have K3 := fun p => layB_cell k3 p
         have K4 := fun p => layB_cell k4 p
         have K5 := fun p => layB_cell k5 p
         have K6 := fun p => layB_cell k6 p
         have K7 := fun p => layB_cell k7 p
         have K8 := fun p => layB_cell k8 p
         have K9 := fun p => layB_cell k9 p
         have K10 := fun p => layB_cell k10 p
         have K11 := fun p => layB_cell k11 p
         have K12 := fun p => layB_cell d0 p
         have K13 := fun p => layB_cell d1 p
         have hk0 : (0 : Int) ≤ (m : Int) := by omega
         have hk1 : (m : Int) < (m : Int) + 1 := by omega
         have hx1 : IntKind.i64.wrap ((m : Int) + 1 - 1) = m := by have := HM18.out; rw [IntWalk.i64_in _ (by omega)]; omega
         have hx2 : IntKind.i64.wrap (m : Int) = m := by have := HM18.out; exact IntWalk.i64_in _ (by omega)
         have cb0 := fun p => layB_call (w := w4) (p := p) fun W hW => rclass_at x T b zb W (HE4.out.step hW).env.tab hzb
         have cl0 := fun p => layB_call (w := w4) (p := p) fun W hW => rclass_at x T (lastF T.dec a) zl W (HE4.out.step hW).env.tab hzl
         simp only [TV.agg] at cb0 cl0
         have CB := Lib.hid cb0
         have CL := Lib.hid cl0
         clear cb0 cl0
         by_cases hzb0 : zb = 0
         ·have d7 : (zb == 0) = true := by simp [hzb0]
          have HCT : Hid (C = true) := by unfold Hid; rw [HCX.out, hzb0]; rfl
          clear hzb0
          go_wp2_with fail
          refine wp_region_layB (by kernel_rfl) (by kernel_rfl) ?_
          repeat (go_big_quiet_step (first
           | (go_at_call 49; with_reducible exact CB.out _)
           | (go_at_call 49; with_reducible exact CL.out _)))
          refine wpQuiet_nil ?_
          intro _ hw'
          obtain ⟨pq, hw''⟩ := hw'
          subst hw''
          have HEq := Lib.hid (HE4.out.step (layB_below w4 pq))
          generalize layB w4 pq = wq at HEq ⊢
          go_wp2
          go_ret
          rw [HCT.out]
          exact ⟨rfl, HEq.out.env.bel⟩
         ·have d7 : (zb == 0) = false := by simp [hzb0]
          have HCT : Hid (C = decide (zl ≤ zb)) := by unfold Hid; rw [HCX.out, decide_eq_false hzb0]; rfl
          clear hzb0
          go_wp2_with fail
          refine wp_region_layB (by kernel_rfl) (by kernel_rfl) ?_
          repeat (go_big_quiet_step (first
           | (go_at_call 49; with_reducible exact CB.out _)
           | (go_at_call 49; with_reducible exact CL.out _)))
          refine wpQuiet_nil ?_
          intro _ hw'
          obtain ⟨pq, hw''⟩ := hw'
          subst hw''
          have HEq := Lib.hid (HE4.out.step (layB_below w4 pq))
          generalize layB w4 pq = wq at HEq ⊢
          go_wp2
          go_ret
          exact ⟨iff_ret (by first | (rw [HCT.out]; done) | (rw [HCT.out]; simp; done) | (rw [HCT.out]; simp; omega)), HEq.out.env.bel⟩
     ·have d4 : (za != 0) = true := by simp [hz2]
      have HCT : Hid (C = false) := by unfold Hid; rw [HCOMP.out, decide_eq_false hz2]; simp
      clear hz2
      go_wp2_with fail
      refine wp_region_layB (by kernel_rfl) (by kernel_rfl) ?_
      repeat (go_big_quiet_step (first
       | (go_at_call 110; with_reducible exact CX.out _)
       | (go_at_call 49; with_reducible exact CF.out _)
       | (go_at_call 49; with_reducible exact CA.out _)))
      refine wpQuiet_nil ?_
      intro _ hw'
      obtain ⟨pq, hw''⟩ := hw'
      subst hw''
      have HEq := Lib.hid (HE1.out.step (layB_below w1 pq))
      generalize layB w1 pq = wq at HEq ⊢
      go_wp2
      go_ret
      rw [HCT.out]
      exact ⟨rfl, HEq.out.env.bel⟩
    ·have d3 : (zf != 0) = true := by simp [hz1]
     have HCT : Hid (C = false) := by unfold Hid; rw [HCOMP.out, decide_eq_false hz1]; simp
     clear hz1
     go_wp2_with fail
     refine wp_region_layB (by kernel_rfl) (by kernel_rfl) ?_
     repeat (go_big_quiet_step (first
      | (go_at_call 110; with_reducible exact CX.out _)
      | (go_at_call 49; with_reducible exact CF.out _)))
     refine wpQuiet_nil ?_
     intro _ hw'
     obtain ⟨pq, hw''⟩ := hw'
     subst hw''
     have HEq := Lib.hid (HE1.out.step (layB_below w1 pq))
     generalize layB w1 pq = wq at HEq ⊢
     go_wp2
     go_ret
     rw [HCT.out]
     exact ⟨rfl, HEq.out.env.bel⟩
  ·exact rcomp_short x T f y w hx hf hy
end Go.Proofs.YtopaojjodkoidaaGreatDoor
