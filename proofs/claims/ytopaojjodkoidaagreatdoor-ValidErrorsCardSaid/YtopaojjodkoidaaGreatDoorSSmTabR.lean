/-
  table: isComposable.
-/
import Derived.Test.YtopaojjodkoidaaGreatDoorSSmPkD
import Derived.StillTailTactics
set_option linter.unusedSimpArgs false
set_option linter.unusedVariables false
namespace Go.Proofs.YtopaojjodkoidaaGreatDoor
open Go.RowKit
structure CmpH (T : Tb) : Prop where
 dec : ascI 0 1114111 (froms T.dec) = true
 cls : ascB 0 T.cls = true
 exc : ascI 0 1114111 T.exc = true
 len : T.dec.length ≤ 256
 fin : ∀ c, siz T.dec c ≤ 18
 pos : ∀ c, 0 ≤ clsT T c
 ne : ∀ m ∈ T.dec, m.2 ≠ []
theorem CmpH.dp {T : Tb} (h : CmpH T) (c : Int) : Dp T.dec 256 c := siz_dp h.len (h.fin c)
theorem CmpH.has {T : Tb} (h : CmpH T) {c : Int} (hc : hasM T.dec c = true) : findM T.dec c ≠ [] := by
 have := findM_has hc
 exact h.ne _ this
set_option maxHeartbeats 1000000 in
theorem comp_short (x : TV) (T : Tb) (f : Int) (v : Value) (y : List Int) (w : World) (hf : findM T.dec f = y) (hv : InV w v y) (hy : y.length ≠ 2) :
 Calls Tryz.prog 170 #[x.agg, .agg #[.int .i64 f, v]] w (Gives (.bool (compT T f)) w) := by
 have HC : Hid (compT T f = false) := compT_not (by rw [hf]; exact hy)
 obtain ⟨q, c, rfl, _, hl⟩ := hv
 obtain ⟨m, hm⟩ : ∃ m, y.length = m := ⟨_, rfl⟩
 rw [hm] at hy hl ⊢
 have hd : ((m : Int) != 2) = true := by simp; omega
 clear hf hm hy
 simp only [TV.agg]
 go_enter Tryz.func170, Tryz.ntmps170
 go_wp2
 go_ret
 exact ⟨by rw [HC.out]; rfl, ((Below.refl _ _).alloc (Nat.le_refl _) _).alloc (by simp) _⟩
theorem Env.cells {w0 w : World} {x : TV} {T : Tb} (h : Env w0 x T w) {A B : Prop} (ha : A) (hb : B) :
 w.cell? ⟨w0.heap.size, 0, none⟩ = some x.a0 ∧ w.cell? ⟨w0.heap.size, 1, none⟩ = some x.a1 ∧ w.cell? ⟨w0.heap.size, 2, none⟩ = some x.a2 ∧ w.cell? ⟨w0.heap.size, 3, none⟩ = some x.a3 ∧ w.cell? ⟨w0.heap.size, 4, none⟩ = some x.a4 ∧ w.cell? ⟨w0.heap.size, 5, none⟩ = some x.a5 ∧
 w.cell? ⟨w0.heap.size, 6, none⟩ = some x.a6 ∧ w.cell? ⟨w0.heap.size, 7, none⟩ = some x.a7 ∧ w.cell? ⟨w0.heap.size, 8, none⟩ = some x.a8 ∧ w.cell? ⟨w0.heap.size, 9, none⟩ = some x.a9 ∧ w.cell? ⟨w0.heap.size, 10, none⟩ = some x.a10 ∧ w.cell? ⟨w0.heap.size, 11, none⟩ = some x.a11 ∧ A ∧ B :=
 ⟨h.at0, h.at1, h.at2, h.at3, h.at4, h.at5, h.at6, h.at7, h.at8, h.at9, h.at10, h.at11, ha, hb⟩
set_option maxRecDepth 100000 in
set_option maxHeartbeats 16000000 in
theorem composable_any (T : Tb) (H : CmpH T) (k : Nat) : ∀ (x : TV) (f : Int) (v : Value) (y : List Int) (w : World), Dp T.dec k f → findM T.dec f = y → TabV w x T → InV w v y →
 Calls Tryz.prog 170 #[x.agg, .agg #[.int .i64 f, v]] w (Gives (.bool (compT T f)) w) := by
 have HH := Lib.hid H
 clear H
 induction k with
 | zero =>
  intro x f v y w hd hf hx hv
  exact comp_short x T f v y w hf hv (by rw [← hf, show findM T.dec f = [] from hd]; simp)
 | succ k ih0 =>
  have IH := Lib.hid ih0
  clear ih0
  intro x f v y w hd hf hx hv
  by_cases hy : y.length = 2
  ·obtain ⟨a0, a1, a2, a3, a4, a5, a6, a7, a8, a9, a10, a11⟩ := x
   obtain ⟨pd, cd, hpd, hdin, hdl⟩ := hx.dec
   obtain ⟨n, hn⟩ : ∃ n, T.dec.length = n := ⟨_, rfl⟩
   rw [hn] at hpd hdl
   simp only at hpd
   subst hpd
   have HN := Lib.hid hn
   have HDI := Lib.hid hdin
   clear hn hdin
   obtain ⟨a, b, rfl⟩ : ∃ a b, y = [a, b] := by
    match y, hy with
    | [a, b], _ => exact ⟨a, b, rfl⟩
   have hcomp := compT_two (HH.out.dp f) hf
   have hda : Dp T.dec k a := hd a (by rw [hf]; simp)
   obtain ⟨C, hC⟩ : ∃ C, compT T f = C := ⟨_, rfl⟩
   obtain ⟨BX, hBX⟩ : ∃ B, Hid (excT T f = B) := ⟨_, rfl⟩
   obtain ⟨zf, hzf⟩ : ∃ z, Hid (clsT T f = z) := ⟨_, rfl⟩
   obtain ⟨za, hza⟩ : ∃ z, Hid (clsT T a = z) := ⟨_, rfl⟩
   obtain ⟨zb, hzb⟩ : ∃ z, Hid (clsT T b = z) := ⟨_, rfl⟩
   obtain ⟨Bb, hBb⟩ : ∃ B, Hid (hasM T.dec b = B) := ⟨_, rfl⟩
   obtain ⟨Ba, hBa⟩ : ∃ B, Hid (hasM T.dec a = B) := ⟨_, rfl⟩
   obtain ⟨Ca, hCa⟩ : ∃ B, Hid (compT T a = B) := ⟨_, rfl⟩
   obtain ⟨zl, hzl⟩ : ∃ z, Hid (clsT T (lastF T.dec a) = z) := ⟨_, rfl⟩
   rw [hBX.out, hzf.out, hza.out, hzb.out, hBb.out, hBa.out, hCa.out, hzl.out, hC] at hcomp
   rw [hC]
   have hbp : 0 ≤ zb := by rw [← hzb.out]; exact HH.out.pos b
   obtain ⟨q, c, rfl, hiy, _⟩ := hv
   have hi0 := hiy 0 (by simp)
   have hi1 := hiy 1 (by simp)
   obtain ⟨b3, off3, rfl, q0⟩ := hi0
   obtain ⟨b3', off3', e3, q1⟩ := hi1
   injection e3 with e3
   injection e3 with e4 e5
   subst e4; subst e5
   simp only [List.getD_cons_zero, List.getD_cons_succ] at q0 q1
   have hbb : Below w.heap.size w ((w.alloc (.cells (tabCells ⟨a0, a1, a2, a3, a4, a5, a6, a7, a8, .slice pd n cd, a10, a11⟩) 26)).alloc (.cells #[.int .i64 f, .slice (some ⟨b3, off3, none⟩) 2 c] 47)) := ((Below.refl _ _).alloc (Nat.le_refl _) _).alloc (by simp) _
   have hlt3 := World.block_lt_of_cell? w _ q0
   have r0 := (hbb.cell (p := ⟨b3, off3 + 0, none⟩) hlt3).trans q0
   have r1 := (hbb.cell (p := ⟨b3, off3 + 1, none⟩) hlt3).trans q1
   simp only [Nat.add_zero] at r0
   have HE := Lib.hid ((Env.new hx).step ((Below.refl _ _).alloc (Nat.le_refl _) (.cells #[.int .i64 f, .slice (some ⟨b3, off3, none⟩) 2 c] 47)))
   have HBM := Lib.hid (BoxM.new (w.alloc (.cells (tabCells ⟨a0, a1, a2, a3, a4, a5, a6, a7, a8, .slice pd n cd, a10, a11⟩) 26)) f (.slice (some ⟨b3, off3, none⟩) 2 c) 47)
   have hsz1 : (w.alloc (.cells (tabCells ⟨a0, a1, a2, a3, a4, a5, a6, a7, a8, .slice pd n cd, a10, a11⟩) 26)).heap.size = w.heap.size + 1 := by simp
   rw [hsz1] at HBM
   have HCOMP := Lib.hid hcomp
   have HR0 := Lib.hid r0
   have HR1 := Lib.hid r1
   have HDA := Lib.hid hda
   have HLT : Hid (b3 < w.heap.size) := hlt3
   clear hcomp hC hda q0 q1 r0 r1 hbb hsz1 hd hf hy hiy hx hlt3
   simp only [TV.agg]
   go_enter Tryz.func170, Tryz.ntmps170
   go_wp2_with fail
   refine (excluded_at _ T f BX _ HE.out.tab HH.out.exc hBX).mono ?_
   rintro e w1 ⟨rfl, hb1⟩
   have HE1 := Lib.hid (HE.out.step hb1)
   have HBM1 := Lib.hid (HBM.out.below hb1)
   have HR01 : Hid (w1.cell? ⟨b3, off3, none⟩ = some (.int .i64 a)) := (hb1.cell (p := ⟨b3, off3, none⟩) (World.block_lt_of_cell? _ _ HR0.out)).trans HR0.out
   have HR11 : Hid (w1.cell? ⟨b3, off3 + 1, none⟩ = some (.int .i64 b)) := (hb1.cell (p := ⟨b3, off3 + 1, none⟩) (World.block_lt_of_cell? _ _ HR1.out)).trans HR1.out
   clear hb1
   cases BX with
   | true =>
    go_wp2
    go_ret
    exact ⟨by rw [HCOMP.out]; rfl, HE1.out.bel⟩
   | false =>
    obtain ⟨m0, m1⟩ := HBM1.out
    have r0 := HR01.out
    have r1 := HR11.out
    go_wp2
    go_quiet (fail)
    generalize hwq : World.drewN w1 _ = wq
    have hq : Below w1.heap.size w1 wq := by rw [← hwq]; exact drew_ref _ _
    have HE2 := Lib.hid (HE1.out.step hq)
    have HBM2 := Lib.hid (HBM1.out.below hq)
    have HR12 : Hid (wq.cell? ⟨b3, off3 + 1, none⟩ = some (.int .i64 b)) := (hq.cell (p := ⟨b3, off3 + 1, none⟩) (World.block_lt_of_cell? _ _ HR11.out)).trans HR11.out
    clear hwq hq m0 m1 r0 r1
    have hbx := HE2.out.box
    simp only [BoxT] at hbx
    obtain ⟨⟨k0, k1, k2, k3, k4, k5⟩, ⟨k6, k7, k8, k9, k10, k11⟩⟩ := hbx
    obtain ⟨m0, m1⟩ := HBM2.out
    go_wp2_with fail
    refine (class_at _ T f zf _ HE2.out.tab HH.out.cls hzf).mono ?_
    rintro e w3 ⟨rfl, hb3⟩
    have HE3 := Lib.hid (HE2.out.step hb3)
    clear hb3 k0 k1 k2 k3 k4 k5 k6 k7 k8 k9 k10 k11 m0 m1
    by_cases hz1 : zf = 0
    ·have d1 : (zf != 0) = false := by simp [hz1]
     have hbx := HE3.out.box
     simp only [BoxT] at hbx
     obtain ⟨⟨k0, k1, k2, k3, k4, k5⟩, ⟨k6, k7, k8, k9, k10, k11⟩⟩ := hbx
     have HZ1 := Lib.hid hz1
     clear hz1
     go_wp2_with fail
     refine (class_at _ T a za _ HE3.out.tab HH.out.cls hza).mono ?_
     rintro e w4 ⟨rfl, hb4⟩
     have HE4 := Lib.hid (HE3.out.step hb4)
     clear hb4 k0 k1 k2 k3 k4 k5 k6 k7 k8 k9 k10 k11
     by_cases hz2 : za = 0
     ·have d2 : (za != 0) = false := by simp [hz2]
      have hbx := HE4.out.box
      simp only [BoxT] at hbx
      obtain ⟨⟨k0, k1, k2, k3, k4, k5⟩, ⟨k6, k7, k8, k9, k10, k11⟩⟩ := hbx
      have HZ2 := Lib.hid hz2
      clear hz2
      go_wp2_with fail
      refine (hasDecomp_at _ T b Bb _ HE4.out.tab HH.out.dec hBb).mono ?_
      rintro e w5 ⟨rfl, hb5⟩
      have HE5 := Lib.hid (HE4.out.step hb5)
      clear hb5 k0 k1 k2 k3 k4 k5 k6 k7 k8 k9 k10 k11
      cases Bb with
      | true =>
       go_wp2
       go_ret
       exact ⟨by rw [HCOMP.out]; simp, HE5.out.bel⟩
      | false =>
       have k9 := HE5.out.at9
       simp only at k9
       go_wp2_with fail
       refine (findMp_any _ T.dec a _ HE5.out.tab.dec HH.out.dec).mono ?_
       rintro e w6 ⟨i, rfl, hi, hfnd, hb6⟩
       rw [hBa.out] at hfnd ⊢
       have HE6 := Lib.hid (HE5.out.step hb6)
       clear hb6 k9
       cases Ba with
       | false =>
        have HCT : Hid (C = true) := by
         have hl : zl = za := by rw [← hzl.out, lastF_nil (findM_nil hBa.out), hza.out]
         unfold Hid
         rw [HCOMP.out, HZ1.out, HZ2.out, hl, HZ2.out]
         simp; omega
        go_wp2
        go_ret
        exact ⟨by rw [HCT.out]; rfl, HE6.out.bel⟩
       | true =>
        obtain ⟨hil, hkey, hto⟩ := hfnd rfl
        have hin : i < n := by rw [← HN.out]; exact hil
        obtain ⟨bd, offd, vd, rfl, d1', d2', qd, cqd, rfl, hyd, hyl⟩ := (HDI.out.below HE6.out.bel) i hil
        rw [hkey] at d1'
        rw [← hto] at d2' hyd hyl
        obtain ⟨yd, hyd2⟩ : ∃ yd, findM T.dec a = yd := ⟨_, rfl⟩
        rw [hyd2] at d2' hyd hyl
        obtain ⟨md, hmd⟩ : ∃ m, yd.length = m := ⟨_, rfl⟩
        rw [hmd] at d2' hyl
        have HD2 := Lib.hid d2'
        have HYD := Lib.hid hyd
        have HFD := Lib.hid hyd2
        have HMD := Lib.hid hmd
        have HHIL := Lib.hid hil
        clear hfnd hi hil hkey hto hyd hyd2 hmd
        have hbx := HE6.out.box
        simp only [BoxT] at hbx
        obtain ⟨⟨k0, k1, k2, k3, k4, k5⟩, ⟨k6, k7, k8, k9, k10, k11⟩⟩ := hbx
        go_upto_region 9 with (fail)
        go_still_tail 6, (by kernel_rfl)
        change wpList _ _ _ _ _ w6.drew
        have hq : Below w6.heap.size w6 w6.drew := drew_one _
        have HE7 := Lib.hid (HE6.out.step hq)
        have HYD7 := Lib.hid (HYD.out.below hq)
        generalize w6.drew = w7 at HE7 HYD7 hq ⊢
        have HQ := Lib.hid hq
        clear hq
        go_wp2_with fail
        refine (IH.out _ a (.slice qd md cqd) yd _ HDA.out HFD.out HE7.out.tab ⟨qd, cqd, by rw [HMD.out], HYD7.out, by rw [HMD.out]; exact hyl⟩).mono ?_
        rw [hCa.out]
        rintro e w8 ⟨rfl, hb8⟩
        have HE8 := Lib.hid (HE7.out.step hb8)
        have HYD8 := Lib.hid (HYD7.out.below hb8)
        have HD28 := Lib.hid (((HQ.out.trans (hb8.mono HQ.out.size)).cell (World.block_lt_of_cell? _ _ HD2.out)).trans HD2.out)
        clear hb8 k0 k1 k2 k3 k4 k5 k6 k7 k8 k9 k10 k11 d1' d2'
        cases Ca with
        | false =>
         have HCT : Hid (C = false) := by unfold Hid; rw [HCOMP.out]; simp
         go_wp2
         go_ret
         exact ⟨by rw [HCT.out]; rfl, HE8.out.bel⟩
        | true =>
         have hmd2 : yd.length = 2 := by
          apply Classical.byContradiction
          intro h
          have := compT_not (T := T) (c := a) (by rw [HFD.out]; exact h)
          rw [hCa.out] at this; cases this
         obtain ⟨e0, e1, rfl⟩ : ∃ e0 e1, yd = [e0, e1] := by
          match yd, hmd2 with
          | [e0, e1], _ => exact ⟨e0, e1, rfl⟩
         have hc2 := compT_two (HH.out.dp a) HFD.out
         rw [hCa.out] at hc2
         have hne1 : hasM T.dec e1 = false := by
          cases hh : hasM T.dec e1 with
          | false => rfl
          | true => rw [hh] at hc2; simp at hc2
         have hlast := lastF_two (HH.out.dp a) HFD.out (findM_nil hne1)
         have hzl1 : Hid (clsT T e1 = zl) := by unfold Hid; rw [← hzl.out, hlast]
         obtain rfl : md = 2 := HMD.out.symm
         obtain ⟨be, offe, rfl, s1⟩ := HYD8.out 1 (by simp)
         simp only [List.getD_cons_zero, List.getD_cons_succ] at s1
         have t2 := HD28.out
         have hcl := class_at _ T b zb w8.drew (HE8.out.step (drew_one _)).tab HH.out.cls hzb
         have HCL := Lib.hid hcl
         have HE9 := Lib.hid (HE8.out.step (drew_one w8))
         have T2 := Lib.hid t2
         have S1 := Lib.hid s1
         have hbx := HE8.out.box
         simp only [BoxT] at hbx
         obtain ⟨⟨k0, k1, k2, k3, k4, k5⟩, ⟨k6, k7, k8, k9, k10, k11⟩⟩ := hbx
         clear hcl hmd2 hc2 hne1 hlast
         go_wp2_with fail
         go_region_held3 (fun w' => w'.cell? ⟨w.heap.size, 0, none⟩ = some a0 ∧ w'.cell? ⟨w.heap.size, 1, none⟩ = some a1 ∧ w'.cell? ⟨w.heap.size, 2, none⟩ = some a2 ∧ w'.cell? ⟨w.heap.size, 3, none⟩ = some a3 ∧ w'.cell? ⟨w.heap.size, 4, none⟩ = some a4 ∧ w'.cell? ⟨w.heap.size, 5, none⟩ = some a5 ∧ w'.cell? ⟨w.heap.size, 6, none⟩ = some a6 ∧ w'.cell? ⟨w.heap.size, 7, none⟩ = some a7 ∧ w'.cell? ⟨w.heap.size, 8, none⟩ = some a8 ∧ w'.cell? ⟨w.heap.size, 9, none⟩ = some (.slice (some ⟨bd, offd, none⟩) n cd) ∧ w'.cell? ⟨w.heap.size, 10, none⟩ = some a10 ∧ w'.cell? ⟨w.heap.size, 11, none⟩ = some a11 ∧ w'.cell? ⟨bd, offd + i * 2 + 1, none⟩ = some (.slice (some ⟨be, offe, none⟩) 2 cqd) ∧ w'.cell? ⟨be, offe + 1, none⟩ = some (.int .i64 e1))
          (first
           | go_keep
           | exact (HE9.out.step hb10).cells ((hb10.cell (p := ⟨bd, offd + i * 2 + 1, none⟩) (World.block_lt_of_cell? w8 _ T2.out)).trans T2.out) ((hb10.cell (p := ⟨be, offe + 1, none⟩) (World.block_lt_of_cell? w8 _ S1.out)).trans S1.out))
          (first
           | (go_at_call 83; (with_reducible refine HCL.out.mono ?_); rintro e w10 ⟨rfl, hb10⟩))
         all_goals
          have HE10 := Lib.hid (HE9.out.step hb10)
          clear hb10
          by_cases hzb0 : zb = 0
          ·have d3 : (zb == 0) = true := by simp [hzb0]
           have HCT : Hid (C = true) := by unfold Hid; rw [HCOMP.out, HZ1.out, HZ2.out, hzb0]; rfl
           clear hzb0
           go_wp2
           go_ret
           exact ⟨by rw [HCT.out]; rfl, HE10.out.bel⟩
          ·have d3 : (zb == 0) = false := by simp [hzb0]
           have HCT : Hid (C = decide (zl ≤ zb)) := by unfold Hid; rw [HCOMP.out, HZ1.out, HZ2.out, decide_eq_false hzb0]; simp
           have hbx := HE10.out.box
           simp only [BoxT] at hbx
           obtain ⟨⟨k0, k1, k2, k3, k4, k5⟩, ⟨k6, k7, k8, k9, k10, k11⟩⟩ := hbx
           clear hzb0
           go_wp2_with fail
           refine (class_at _ T e1 zl _ HE10.out.tab HH.out.cls hzl1).mono ?_
           rintro e w11 ⟨rfl, hb11⟩
           have HE11 := Lib.hid (HE10.out.step hb11)
           clear hb11 k0 k1 k2 k3 k4 k5 k6 k7 k8 k9 k10 k11
           go_wp2
           all_goals
            go_ret
            exact ⟨iff_ret (by first | (rw [HCT.out]; done) | (rw [HCT.out]; simp; done) | (rw [HCT.out]; simp; omega)), HE11.out.bel⟩
     ·have d2 : (za != 0) = true := by simp [hz2]
      have HCT : Hid (C = false) := by unfold Hid; rw [HCOMP.out, decide_eq_false hz2]; simp
      clear hz2
      go_wp2
      go_ret
      exact ⟨by rw [HCT.out]; rfl, HE4.out.bel⟩
    ·have d1 : (zf != 0) = true := by simp [hz1]
     have HCT : Hid (C = false) := by unfold Hid; rw [HCOMP.out, decide_eq_false hz1]; simp
     clear hz1
     go_wp2
     go_ret
     exact ⟨by rw [HCT.out]; rfl, HE3.out.bel⟩
  ·exact comp_short x T f v y w hf hv hy
end Go.Proofs.YtopaojjodkoidaaGreatDoor
