/-
  keep.Other: the cases K10 (genO.py).
-/
import Derived.Test.YtnnhcgflmhjakaaGreatDoorPkH
import Derived.StillTailTactics
set_option linter.unusedSimpArgs false
set_option linter.unusedVariables false
namespace Go.Proofs.YtnnhcgflmhjakaaGreatDoor
open Go.RowKit
set_option linter.unusedVariables false

set_option maxRecDepth 100000 in
set_option maxHeartbeats 4000000 in
theorem other_10 (x : TV) (T : Tb) (n : Nat) (how at' v : Int) (w : World) (hx : TabV w x T) (hf : Few n T) (hn : n ≤ 1000) (hk : Hid (pickS how 12 = 10)) :
    Calls Tryz.prog 10 #[x.agg, .int .i64 how, .int .i64 at', .int .i64 v] w (OtherPost x n w) := by
  obtain ⟨a0, a1, a2, a3, a4, a5, a6, a7, a8, a9, a10, a11⟩ := x
  obtain ⟨p0, n0, q0, hsl0⟩ : Slc a0 := hx.cat.slc
  subst hsl0
  obtain ⟨p1, n1, q1, hsl1⟩ : Slc a1 := hx.cls.slc
  subst hsl1
  obtain ⟨p2, n2, q2, hsl2⟩ : Slc a2 := hx.joi.slc
  subst hsl2
  obtain ⟨p3, n3, q3, hsl3⟩ : Slc a3 := hx.bid.slc
  subst hsl3
  obtain ⟨p4, n4, q4, hsl4⟩ : Slc a4 := hx.scr.slc
  subst hsl4
  obtain ⟨p5, n5, q5, hsl5⟩ : Slc a5 := hx.sta.slc
  subst hsl5
  obtain ⟨p6, n6, q6, hsl6⟩ : Slc a6 := hx.ign.slc
  subst hsl6
  obtain ⟨p7, n7, q7, hsl7⟩ : Slc a7 := hx.ext.slc
  subst hsl7
  obtain ⟨p8, n8, q8, hsl8⟩ : Slc a8 := hx.map.slc
  subst hsl8
  obtain ⟨p9, n9, q9, hsl9⟩ : Slc a9 := hx.dec.slc
  subst hsl9
  obtain ⟨p10, n10, q10, hsl10⟩ : Slc a10 := hx.exc.slc
  subst hsl10
  obtain ⟨p11, n11, q11, hsl11⟩ : Slc a11 := hx.pro.slc
  subst hsl11
  have hC := OCase.new w ⟨.slice p0 n0 q0, .slice p1 n1 q1, .slice p2 n2 q2, .slice p3 n3 q3, .slice p4 n4 q4, .slice p5 n5 q5, .slice p6 n6 q6, .slice p7 n7 q7, .slice p8 n8 q8, .slice p9 n9 q9, .slice p10 n10 q10, .slice p11 n11 q11⟩ 29
  obtain ⟨W, hW⟩ : ∃ W, ((w.alloc (.cells #[.slice p0 n0 q0, .slice p1 n1 q1, .slice p2 n2 q2, .slice p3 n3 q3, .slice p4 n4 q4, .slice p5 n5 q5, .slice p6 n6 q6, .slice p7 n7 q7, .slice p8 n8 q8, .slice p9 n9 q9, .slice p10 n10 q10, .slice p11 n11 q11] 29)).alloc (.cells nilC 29)).alloc (.cells #[.slice p0 n0 q0, .slice p1 n1 q1, .slice p2 n2 q2, .slice p3 n3 q3, .slice p4 n4 q4, .slice p5 n5 q5, .slice p6 n6 q6, .slice p7 n7 q7, .slice p8 n8 q8, .slice p9 n9 q9, .slice p10 n10 q10, .slice p11 n11 q11] 29) = W := ⟨_, rfl⟩
  simp only [tabCells] at hC
  rw [hW] at hC
  have HC := Lib.hid hC
  have HX := Lib.hid hx
  have HF := Lib.hid hf
  obtain ⟨pp, cc, he2, hin2, hl2⟩ := hx.joi
  injection he2 with e1 e2 e3
  subst e1
  subst e3
  have hle : n2 ≤ n := by rw [e2]; exact hf.joi
  have HQL : Hid (T.joi.length = n2) := e2.symm
  have HQI := Lib.hid (hin2.below hC.bel)
  have ct : W.cell? ⟨w.heap.size, 2, none⟩ = some (.slice p2 n2 q2) := hC.cellT (by omega)
  clear hin2 hl2 e2
  go_enter Tryz.func10, Tryz.ntmps10
  go_wp2_with fail
  refine (pick_at how 12 10 _ (by omega) (by omega) hk).mono ?_
  rintro e wz ⟨rfl, rfl⟩
  clear hW hC hx hf hk
  go_upto_region 26 with (at_builtin; refine wpList_append_spans (.const (.slice none 0 0)) (.tmp 175) rfl rfl W.heap.size (.slice none 0 0) [] rfl (Spans.nil _ _) p2 n2 q2 T.joi HQL.out rfl HQI.out (by have := HQL.out; simp; omega) (Nat.le_refl _) ?_; intro v3 w3 ho3 hg3; have hk3 : Keeps W w3 (fun _ => False) := keeps_g hg3; have hcf : w3.cell? ⟨w.heap.size + 1 + 1, 2, none⟩ = some (.slice p2 n2 q2) ∧ w3.frozen? ⟨w.heap.size + 1 + 1, 2, none⟩ = false := HC.out.cellG hk3 (by omega); obtain ⟨c3, f3⟩ := hcf; obtain ⟨pv, cv, rfl⟩ : ∃ p c, v3 = .slice p n2 c := (by obtain ⟨p, c, e, _⟩ := ho3.inn; exact ⟨p, c, by rw [e, List.nil_append, HQL.out]⟩))
  rw [List.nil_append] at ho3
  have hst := Sets.store w3 (w.heap.size + 1 + 1) 2 (.slice pv n2 cv) _ c3
  have hbx := (HC.out.boxF.keeps hk3 (fun e => e)).sets hst
  have hkx : Keeps W (w3.setCell ⟨w.heap.size + 1 + 1, 2, none⟩ (.slice pv n2 cv)) (fun b => b = w.heap.size + 1 + 1) := hk3.trans hst.keep (fun _ _ e => e.elim) (fun _ _ e => e)
  have hlt := HC.out.lt
  have hox : Spans (w3.setCell ⟨w.heap.size + 1 + 1, 2, none⟩ (.slice pv n2 cv)) W.heap.size (.slice pv n2 cv) T.joi := hst.keep.owns ho3 (fun k hk e => by have := World.ownsRow.lt ho3 k hk; omega)
  have y2 : (w3.setCell ⟨w.heap.size + 1 + 1, 2, none⟩ (.slice pv n2 cv)).cell? ⟨w.heap.size + 1 + 1, 2, none⟩ = some (.slice pv n2 cv) := hst.cell
  generalize (w3.setCell ⟨w.heap.size + 1 + 1, 2, none⟩ (.slice pv n2 cv)) = w4 at hbx hkx hox y2 ⊢
  clear hst c3 f3 ho3 hg3 hk3 ct
  have HBX := Lib.hid hbx
  have HKX := Lib.hid hkx
  have HOX := Lib.hid hox
  clear hbx hkx hox
  by_cases h0 : n2 = 0
  · have h1 : decide ((0 : Int) < (n2 : Int)) = false := decide_eq_false (by omega)
    have h2 : ((n2 : Int) ≤ 0) := by omega
    go_upto_region 28 with (fail)
    have HE : Hid (∃ x' T', OEnd w (w.heap.size + 1 + 1) (w.heap.size + 1) n ⟨.slice p0 n0 q0, .slice p1 n1 q1, .slice p2 n2 q2, .slice p3 n3 q3, .slice p4 n4 q4, .slice p5 n5 q5, .slice p6 n6 q6, .slice p7 n7 q7, .slice p8 n8 q8, .slice p9 n9 q9, .slice p10 n10 q10, .slice p11 n11 q11⟩ w4 x' T') :=
      ⟨_, T, HC.out.fin_at HBX.out HKX.out (fun wz hz => by
        have o := HC.out.oldX HX.out HKX.out wz hz
        exact ⟨o.cat, o.cls, HC.out.spansX HOX.out (Nat.le_refl _) (by have := HQL.out; omega) wz hz, o.bid, o.scr, o.sta, o.ign, o.ext, o.map, o.dec, o.exc, o.pro⟩) ⟨Nat.le_trans HF.out.cat (by omega), Nat.le_trans HF.out.cls (by omega), Nat.le_trans HF.out.joi (by omega), Nat.le_trans HF.out.bid (by omega), Nat.le_trans HF.out.scr (by omega), Nat.le_trans HF.out.sta (by omega), Nat.le_trans HF.out.ign (by omega), Nat.le_trans HF.out.ext (by omega), Nat.le_trans HF.out.map (by omega), Nat.le_trans HF.out.dec (by omega), Nat.le_trans HF.out.exc (by omega), Nat.le_trans HF.out.pro (by omega)⟩ (fun h p n c e => h p n c e)⟩
    clear HBX HKX HOX y2
    generalize w4 = wx at HE ⊢
    generalize hrb : w.heap.size + 1 = rb at HE ⊢
    generalize hgg : w.heap.size + 1 + 1 = g at HE ⊢
    obtain ⟨⟨b0, b1, b2, b3, b4, b5, b6, b7, b8, b9, b10, b11⟩, T', he⟩ := HE.out
    have htv := he.tab wx (Keeps.refl _ _)
    obtain ⟨r0, m0, c0, hsl0⟩ : Slc b0 := htv.cat.slc
    subst hsl0
    obtain ⟨r1, m1, c1, hsl1⟩ : Slc b1 := htv.cls.slc
    subst hsl1
    obtain ⟨r2, m2, c2, hsl2⟩ : Slc b2 := htv.joi.slc
    subst hsl2
    obtain ⟨r3, m3, c3, hsl3⟩ : Slc b3 := htv.bid.slc
    subst hsl3
    obtain ⟨r4, m4, c4, hsl4⟩ : Slc b4 := htv.scr.slc
    subst hsl4
    obtain ⟨r5, m5, c5, hsl5⟩ : Slc b5 := htv.sta.slc
    subst hsl5
    obtain ⟨r6, m6, c6, hsl6⟩ : Slc b6 := htv.ign.slc
    subst hsl6
    obtain ⟨r7, m7, c7, hsl7⟩ : Slc b7 := htv.ext.slc
    subst hsl7
    obtain ⟨r8, m8, c8, hsl8⟩ : Slc b8 := htv.map.slc
    subst hsl8
    obtain ⟨r9, m9, c9, hsl9⟩ : Slc b9 := htv.dec.slc
    subst hsl9
    obtain ⟨r10, m10, c10, hsl10⟩ : Slc b10 := htv.exc.slc
    subst hsl10
    obtain ⟨r11, m11, c11, hsl11⟩ : Slc b11 := htv.pro.slc
    subst hsl11
    have HEE := Lib.hid he
    obtain ⟨⟨k0, k1, k2, k3, k4, k5⟩, ⟨k6, k7, k8, k9, k10, k11⟩⟩ := he.box.load
    simp only at k0 k1 k2 k3 k4 k5 k6 k7 k8 k9 k10 k11
    obtain ⟨s0, t0⟩ := he.res 0 (by omega)
    obtain ⟨s1, t1⟩ := he.res 1 (by omega)
    obtain ⟨s2, t2⟩ := he.res 2 (by omega)
    obtain ⟨s3, t3⟩ := he.res 3 (by omega)
    obtain ⟨s4, t4⟩ := he.res 4 (by omega)
    obtain ⟨s5, t5⟩ := he.res 5 (by omega)
    obtain ⟨s6, t6⟩ := he.res 6 (by omega)
    obtain ⟨s7, t7⟩ := he.res 7 (by omega)
    obtain ⟨s8, t8⟩ := he.res 8 (by omega)
    obtain ⟨s9, t9⟩ := he.res 9 (by omega)
    obtain ⟨s10, t10⟩ := he.res 10 (by omega)
    obtain ⟨s11, t11⟩ := he.res 11 (by omega)
    have HRB : Hid (w.heap.size ≤ rb) := by unfold Hid; omega
    clear HE he htv hrb hgg
    go_wp2
    obtain ⟨hbF, hkF⟩ := store12 wx rb (.slice r0 m0 c0) (.slice r1 m1 c1) (.slice r2 m2 c2) (.slice r3 m3 c3) (.slice r4 m4 c4) (.slice r5 m5 c5) (.slice r6 m6 c6) (.slice r7 m7 c7) (.slice r8 m8 c8) (.slice r9 m9 c9) (.slice r10 m10 c10) (.slice r11 m11 c11) HEE.out.res
    generalize (World.setCell (World.setCell (World.setCell (World.setCell (World.setCell (World.setCell (World.setCell (World.setCell (World.setCell (World.setCell (World.setCell (World.setCell (wx) ⟨rb, 0, none⟩ (.slice r0 m0 c0)) ⟨rb, 1, none⟩ (.slice r1 m1 c1)) ⟨rb, 2, none⟩ (.slice r2 m2 c2)) ⟨rb, 3, none⟩ (.slice r3 m3 c3)) ⟨rb, 4, none⟩ (.slice r4 m4 c4)) ⟨rb, 5, none⟩ (.slice r5 m5 c5)) ⟨rb, 6, none⟩ (.slice r6 m6 c6)) ⟨rb, 7, none⟩ (.slice r7 m7 c7)) ⟨rb, 8, none⟩ (.slice r8 m8 c8)) ⟨rb, 9, none⟩ (.slice r9 m9 c9)) ⟨rb, 10, none⟩ (.slice r10 m10 c10)) ⟨rb, 11, none⟩ (.slice r11 m11 c11)) = WF at hbF hkF ⊢
    obtain ⟨⟨Q0, Q1, Q2, Q3, Q4, Q5⟩, ⟨Q6, Q7, Q8, Q9, Q10, Q11⟩⟩ := hbF.load
    simp only at Q0 Q1 Q2 Q3 Q4 Q5 Q6 Q7 Q8 Q9 Q10 Q11
    refine bodyPost_ret (v := .agg #[.slice r0 m0 c0, .slice r1 m1 c1, .slice r2 m2 c2, .slice r3 m3 c3, .slice r4 m4 c4, .slice r5 m5 c5, .slice r6 m6 c6, .slice r7 m7 c7, .slice r8 m8 c8, .slice r9 m9 c9, .slice r10 m10 c10, .slice r11 m11 c11]) (by simp [results, Tryz.results10, go_sem, Q0, Q1, Q2, Q3, Q4, Q5, Q6, Q7, Q8, Q9, Q10, Q11]) rfl ?_
    exact ⟨⟨.slice r0 m0 c0, .slice r1 m1 c1, .slice r2 m2 c2, .slice r3 m3 c3, .slice r4 m4 c4, .slice r5 m5 c5, .slice r6 m6 c6, .slice r7 m7 c7, .slice r8 m8 c8, .slice r9 m9 c9, .slice r10 m10 c10, .slice r11 m11 c11⟩, T', rfl, HEE.out.tab WF hkF, HEE.out.few, HEE.out.cap, HEE.out.bel.trans (hkF.below HEE.out.bel.size (fun b _ e => by have := HRB.out; omega))⟩
  · have h1 : 0 < n2 := by omega
    have hd : decide ((0 : Int) < (n2 : Int)) = true := decide_eq_true (by omega)
    have hi0 : (0 : Int) < (n2 : Int) := by omega
    clear h0
    obtain ⟨z0, HZ0, hz0, hz1⟩ := pick_nm at' n2 (by omega)
    obtain ⟨z, rfl⟩ : ∃ z : Nat, z0 = z := ⟨z0.toNat, by omega⟩
    obtain ⟨y, HY, hy0, hy1⟩ := pick_nm v 8 (by omega)
    have hzl : z < n2 := by omega
    obtain ⟨gr, rfl, hgr, cv2, fv2⟩ := HOX.out.cellV z (by rw [HQL.out]; exact hzl)
    go_upto_region 27 with (fail)
    have hq : Keeps w4 w4.drew (fun _ => False) := ⟨rfl, rfl, rfl, Nat.le_refl _, fun _ _ _ => rfl⟩
    have HBX2 := Lib.hid (HBX.out.keeps hq (fun e => e))
    have HKX2 := Lib.hid (HKX.out.trans hq (fun _ _ e => e) (fun _ _ e => e.elim))
    have HOX2 : Hid (Spans w4.drew W.heap.size (.slice (some ⟨gr, 0, none⟩) n2 cv) T.joi) := HOX.out
    go_still_tail 11, (by kernel_rfl)
    still_call ((pick_at at' n2 z _ (by omega) (by omega) HZ0).mono fun _ _ h => ⟨h.1, h.2.symm⟩)
    repeat still_step
    still_call ((pick_at v 8 y _ (by omega) (by omega) HY).mono fun _ _ h => ⟨h.1, h.2.symm⟩)
    repeat still_step
    refine wpStill_nil ?_
    change wpList _ _ _ _ _ w4.drew
    have y3 : w4.drew.cell? ⟨w.heap.size + 1 + 1, 2, none⟩ = some (.slice (some ⟨gr, 0, none⟩) n2 cv) := y2
    have cv3 : w4.drew.cell? ⟨gr, z * 3 + 2, none⟩ = some (.int .i64 (T.joi.getD z sp0).2.2) := cv2
    have fv3 : w4.drew.frozen? ⟨gr, z * 3 + 2, none⟩ = false := fv2
    clear y2 cv2 fv2 HBX HKX HOX hq
    generalize w4.drew = w5 at HBX2 HKX2 HOX2 y3 cv3 fv3 ⊢
    go_upto_region 28 with (fail)
    have hsr := Keeps.store w5 gr (z * 3 + 2) (.int .i64 y)
    have HE : Hid (∃ x' T', OEnd w (w.heap.size + 1 + 1) (w.heap.size + 1) n ⟨.slice p0 n0 q0, .slice p1 n1 q1, .slice p2 n2 q2, .slice p3 n3 q3, .slice p4 n4 q4, .slice p5 n5 q5, .slice p6 n6 q6, .slice p7 n7 q7, .slice p8 n8 q8, .slice p9 n9 q9, .slice p10 n10 q10, .slice p11 n11 q11⟩ (w5.setCell ⟨gr, z * 3 + 2, none⟩ (.int .i64 y)) x' T') :=
      ⟨_, { T with joi := setV T.joi z y }, HC.out.fin_at (HBX2.out.keeps hsr (fun e => by omega)) (HKX2.out.trans hsr (fun _ _ e => e) (fun b hb e => by omega)) (fun wz hz => by
        have o := HC.out.oldX HX.out (HKX2.out.trans hsr (fun _ _ e => e) (fun b hb e => by omega)) wz hz
        exact ⟨o.cat, o.cls, HC.out.spansX (HOX2.out.setV HQL.out.symm z (by rw [HQL.out]; exact hzl) y) (Nat.le_refl _) (by have := HQL.out; simp [setV]; omega) wz hz, o.bid, o.scr, o.sta, o.ign, o.ext, o.map, o.dec, o.exc, o.pro⟩) ⟨Nat.le_trans HF.out.cat (by omega), Nat.le_trans HF.out.cls (by omega), by simp only [setV, List.length_set]; exact Nat.le_trans HF.out.joi (by omega), Nat.le_trans HF.out.bid (by omega), Nat.le_trans HF.out.scr (by omega), Nat.le_trans HF.out.sta (by omega), Nat.le_trans HF.out.ign (by omega), Nat.le_trans HF.out.ext (by omega), Nat.le_trans HF.out.map (by omega), Nat.le_trans HF.out.dec (by omega), Nat.le_trans HF.out.exc (by omega), Nat.le_trans HF.out.pro (by omega)⟩ (fun h p n c e => h p n c e)⟩
    generalize (w5.setCell ⟨gr, z * 3 + 2, none⟩ (.int .i64 y)) = wx at HE ⊢
    clear hsr y3 cv3 fv3 HBX2 HKX2 HOX2
    generalize hrb : w.heap.size + 1 = rb at HE ⊢
    generalize hgg : w.heap.size + 1 + 1 = g at HE ⊢
    obtain ⟨⟨b0, b1, b2, b3, b4, b5, b6, b7, b8, b9, b10, b11⟩, T', he⟩ := HE.out
    have htv := he.tab wx (Keeps.refl _ _)
    obtain ⟨r0, m0, c0, hsl0⟩ : Slc b0 := htv.cat.slc
    subst hsl0
    obtain ⟨r1, m1, c1, hsl1⟩ : Slc b1 := htv.cls.slc
    subst hsl1
    obtain ⟨r2, m2, c2, hsl2⟩ : Slc b2 := htv.joi.slc
    subst hsl2
    obtain ⟨r3, m3, c3, hsl3⟩ : Slc b3 := htv.bid.slc
    subst hsl3
    obtain ⟨r4, m4, c4, hsl4⟩ : Slc b4 := htv.scr.slc
    subst hsl4
    obtain ⟨r5, m5, c5, hsl5⟩ : Slc b5 := htv.sta.slc
    subst hsl5
    obtain ⟨r6, m6, c6, hsl6⟩ : Slc b6 := htv.ign.slc
    subst hsl6
    obtain ⟨r7, m7, c7, hsl7⟩ : Slc b7 := htv.ext.slc
    subst hsl7
    obtain ⟨r8, m8, c8, hsl8⟩ : Slc b8 := htv.map.slc
    subst hsl8
    obtain ⟨r9, m9, c9, hsl9⟩ : Slc b9 := htv.dec.slc
    subst hsl9
    obtain ⟨r10, m10, c10, hsl10⟩ : Slc b10 := htv.exc.slc
    subst hsl10
    obtain ⟨r11, m11, c11, hsl11⟩ : Slc b11 := htv.pro.slc
    subst hsl11
    have HEE := Lib.hid he
    obtain ⟨⟨k0, k1, k2, k3, k4, k5⟩, ⟨k6, k7, k8, k9, k10, k11⟩⟩ := he.box.load
    simp only at k0 k1 k2 k3 k4 k5 k6 k7 k8 k9 k10 k11
    obtain ⟨s0, t0⟩ := he.res 0 (by omega)
    obtain ⟨s1, t1⟩ := he.res 1 (by omega)
    obtain ⟨s2, t2⟩ := he.res 2 (by omega)
    obtain ⟨s3, t3⟩ := he.res 3 (by omega)
    obtain ⟨s4, t4⟩ := he.res 4 (by omega)
    obtain ⟨s5, t5⟩ := he.res 5 (by omega)
    obtain ⟨s6, t6⟩ := he.res 6 (by omega)
    obtain ⟨s7, t7⟩ := he.res 7 (by omega)
    obtain ⟨s8, t8⟩ := he.res 8 (by omega)
    obtain ⟨s9, t9⟩ := he.res 9 (by omega)
    obtain ⟨s10, t10⟩ := he.res 10 (by omega)
    obtain ⟨s11, t11⟩ := he.res 11 (by omega)
    have HRB : Hid (w.heap.size ≤ rb) := by unfold Hid; omega
    clear HE he htv hrb hgg
    go_wp2
    obtain ⟨hbF, hkF⟩ := store12 wx rb (.slice r0 m0 c0) (.slice r1 m1 c1) (.slice r2 m2 c2) (.slice r3 m3 c3) (.slice r4 m4 c4) (.slice r5 m5 c5) (.slice r6 m6 c6) (.slice r7 m7 c7) (.slice r8 m8 c8) (.slice r9 m9 c9) (.slice r10 m10 c10) (.slice r11 m11 c11) HEE.out.res
    generalize (World.setCell (World.setCell (World.setCell (World.setCell (World.setCell (World.setCell (World.setCell (World.setCell (World.setCell (World.setCell (World.setCell (World.setCell (wx) ⟨rb, 0, none⟩ (.slice r0 m0 c0)) ⟨rb, 1, none⟩ (.slice r1 m1 c1)) ⟨rb, 2, none⟩ (.slice r2 m2 c2)) ⟨rb, 3, none⟩ (.slice r3 m3 c3)) ⟨rb, 4, none⟩ (.slice r4 m4 c4)) ⟨rb, 5, none⟩ (.slice r5 m5 c5)) ⟨rb, 6, none⟩ (.slice r6 m6 c6)) ⟨rb, 7, none⟩ (.slice r7 m7 c7)) ⟨rb, 8, none⟩ (.slice r8 m8 c8)) ⟨rb, 9, none⟩ (.slice r9 m9 c9)) ⟨rb, 10, none⟩ (.slice r10 m10 c10)) ⟨rb, 11, none⟩ (.slice r11 m11 c11)) = WF at hbF hkF ⊢
    obtain ⟨⟨Q0, Q1, Q2, Q3, Q4, Q5⟩, ⟨Q6, Q7, Q8, Q9, Q10, Q11⟩⟩ := hbF.load
    simp only at Q0 Q1 Q2 Q3 Q4 Q5 Q6 Q7 Q8 Q9 Q10 Q11
    refine bodyPost_ret (v := .agg #[.slice r0 m0 c0, .slice r1 m1 c1, .slice r2 m2 c2, .slice r3 m3 c3, .slice r4 m4 c4, .slice r5 m5 c5, .slice r6 m6 c6, .slice r7 m7 c7, .slice r8 m8 c8, .slice r9 m9 c9, .slice r10 m10 c10, .slice r11 m11 c11]) (by simp [results, Tryz.results10, go_sem, Q0, Q1, Q2, Q3, Q4, Q5, Q6, Q7, Q8, Q9, Q10, Q11]) rfl ?_
    exact ⟨⟨.slice r0 m0 c0, .slice r1 m1 c1, .slice r2 m2 c2, .slice r3 m3 c3, .slice r4 m4 c4, .slice r5 m5 c5, .slice r6 m6 c6, .slice r7 m7 c7, .slice r8 m8 c8, .slice r9 m9 c9, .slice r10 m10 c10, .slice r11 m11 c11⟩, T', rfl, HEE.out.tab WF hkF, HEE.out.few, HEE.out.cap, HEE.out.bel.trans (hkF.below HEE.out.bel.size (fun b _ e => by have := HRB.out; omega))⟩

end Go.Proofs.YtnnhcgflmhjakaaGreatDoor
