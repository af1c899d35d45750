/-
  keep.Other: the cases K3a, K3b, K7, K11a, K11b (genO.py).
-/
import Derived.Test.YtnnhcgflmhjakaaGreatDoorPkH
set_option linter.unusedSimpArgs false
set_option linter.unusedVariables false
namespace Go.Proofs.YtnnhcgflmhjakaaGreatDoor
open Go.RowKit
set_option linter.unusedVariables false

set_option maxRecDepth 100000 in
set_option maxHeartbeats 4000000 in
theorem other_3a (x : TV) (T : Tb) (n : Nat) (how at' v : Int) (w : World) (hx : TabV w x T) (hf : Few n T) (hn : n ≤ 1000) (hk : Hid (pickS how 12 = 3)) (hk2 : Hid (pickS at' 2 = 0)) :
    Calls Tryz.prog 10 #[x.agg, .int .i64 how, .int .i64 at', .int .i64 v] w (OtherPost x n w) := by
  obtain ⟨a0, a1, a2, a3, a4, a5, a6, a7, a8, a9, a10, a11⟩ := x
  obtain ⟨p0, n0, q0, hsl0⟩ : Slc a0 := hx.cat.slc
  subst hsl0
  obtain ⟨p1, n1, q1, hsl1⟩ : Slc a1 := hx.cls.slc
  subst hsl1
  obtain ⟨p2, n2, q2, hsl2⟩ : Slc a2 := hx.joi.slc
  subst hsl2
  obtain ⟨p3, n3, q3, hsl3⟩ : Slc a3 := hx.bid.slc
  subst hsl3
  obtain ⟨p4, n4, q4, hsl4⟩ : Slc a4 := hx.scr.slc
  subst hsl4
  obtain ⟨p5, n5, q5, hsl5⟩ : Slc a5 := hx.sta.slc
  subst hsl5
  obtain ⟨p6, n6, q6, hsl6⟩ : Slc a6 := hx.ign.slc
  subst hsl6
  obtain ⟨p7, n7, q7, hsl7⟩ : Slc a7 := hx.ext.slc
  subst hsl7
  obtain ⟨p8, n8, q8, hsl8⟩ : Slc a8 := hx.map.slc
  subst hsl8
  obtain ⟨p9, n9, q9, hsl9⟩ : Slc a9 := hx.dec.slc
  subst hsl9
  obtain ⟨p10, n10, q10, hsl10⟩ : Slc a10 := hx.exc.slc
  subst hsl10
  obtain ⟨p11, n11, q11, hsl11⟩ : Slc a11 := hx.pro.slc
  subst hsl11
  have hC := OCase.new w ⟨.slice p0 n0 q0, .slice p1 n1 q1, .slice p2 n2 q2, .slice p3 n3 q3, .slice p4 n4 q4, .slice p5 n5 q5, .slice p6 n6 q6, .slice p7 n7 q7, .slice p8 n8 q8, .slice p9 n9 q9, .slice p10 n10 q10, .slice p11 n11 q11⟩ 29
  obtain ⟨W, hW⟩ : ∃ W, ((w.alloc (.cells #[.slice p0 n0 q0, .slice p1 n1 q1, .slice p2 n2 q2, .slice p3 n3 q3, .slice p4 n4 q4, .slice p5 n5 q5, .slice p6 n6 q6, .slice p7 n7 q7, .slice p8 n8 q8, .slice p9 n9 q9, .slice p10 n10 q10, .slice p11 n11 q11] 29)).alloc (.cells nilC 29)).alloc (.cells #[.slice p0 n0 q0, .slice p1 n1 q1, .slice p2 n2 q2, .slice p3 n3 q3, .slice p4 n4 q4, .slice p5 n5 q5, .slice p6 n6 q6, .slice p7 n7 q7, .slice p8 n8 q8, .slice p9 n9 q9, .slice p10 n10 q10, .slice p11 n11 q11] 29) = W := ⟨_, rfl⟩
  simp only [tabCells] at hC
  rw [hW] at hC
  have HC := Lib.hid hC
  have HX := Lib.hid hx
  have HF := Lib.hid hf
  obtain ⟨pp, cc, he9, hin9, hl9⟩ := hx.dec
  injection he9 with e1 e2 e3
  subst e1
  subst e3
  obtain ⟨Q, hQm, hQi, hQt⟩ := mq_of hin9
  have hQl : Q.length = n9 := by rw [e2, ← hQm, List.length_map]
  have hle : n9 ≤ n := by rw [e2]; exact hf.dec
  have HQM := Lib.hid hQm
  have HQI := Lib.hid (hQi.below hC.bel)
  have HQT := Lib.hid hQt
  have HQL := Lib.hid hQl
  have ct : W.cell? ⟨w.heap.size, 9, none⟩ = some (.slice p9 n9 q9) := hC.cellT (by omega)
  clear hin9 hl9 hQm hQi hQt e2
  obtain ⟨z1, HZ1, y0, y1⟩ := pick_nm v 6 (by omega)
  go_enter Tryz.func10, Tryz.ntmps10
  go_wp2_with fail
  refine (pick_at how 12 3 _ (by omega) (by omega) hk).mono ?_
  rintro e wz ⟨rfl, rfl⟩
  clear hW hC hx hf hk
  go_upto_region 28 with (first
    | (at_builtin; refine wpList_append_maps (.const (.slice none 0 0)) (.tmp 68) rfl rfl W.heap.size (.slice none 0 0) [] rfl (RowQ.nil _ _) p9 n9 q9 Q HQL.out rfl HQI.out (by have := HQL.out; simp; omega) (Nat.le_refl _) ?_; intro v1 w1 ho1 hg1; have hk1 : Keeps W w1 (fun _ => False) := keeps_g hg1; have hh1 := hk1.size)
    | (go_at_call 9; (with_reducible refine (pick_at v 6 z1 _ (by omega) (by omega) HZ1).mono ?_); rintro e wn ⟨rfl, rfl⟩)
    | (go_at_call 9; (with_reducible refine (pick_at at' 2 0 _ (by omega) (by omega) hk2).mono ?_); rintro e wn ⟨rfl, rfl⟩)
    | (at_builtin; refine wpList_append_map1 (.tmp 69) (.tmp 79) rfl rfl W.heap.size v1 ([] ++ Q) rfl (World.ownsRow.alloc ho1 _) 131072 [7680 + z1] _ _ _ rfl (by simp) rfl (by have := HQL.out; simp; omega) (Nat.le_trans hh1 (by simp <;> omega)) ?_; intro v3 w3 ho3 hg3; have hk3 : Keeps W w3 (fun _ => False) := keeps_two hk1 ho1 (ka2 w1 _ _) hg3; have hcf : w3.cell? ⟨w.heap.size + 1 + 1, 9, none⟩ = some (.slice p9 n9 q9) ∧ w3.frozen? ⟨w.heap.size + 1 + 1, 9, none⟩ = false := HC.out.cellG hk3 (by omega); obtain ⟨c3, f3⟩ := hcf; obtain ⟨pv, cv, Nv, rfl⟩ : ∃ p c N, v3 = .slice p N c := (by obtain ⟨p, c, e⟩ := RowQ.slice ho3; exact ⟨p, c, _, e⟩)))
  have hown : ∀ k, v1.ownBlock = some k → k < w1.heap.size := fun k hk => (World.ownsRow.lt ho1 k hk).2
  rw [List.nil_append] at ho3
  have hY : ∀ q ∈ [((131072, [7680 + z1]), .slice (some ⟨w1.heap.size, 0, none⟩) 1 2)], NewTo W w3 q := by
    intro q hq
    simp only [List.mem_cons, List.not_mem_nil, or_false] at hq
    subst hq
    exact new_to (W := W) (b := w1.heap.size) (off := 0) ((ints_cells w1 #[.int .i64 (7680 + z1), .int .i64 769] 3 0 [7680 + z1] rfl (by intro k hk; have hk2 : k = 0 := (by simp at hk; omega); rcases hk2 with rfl <;> rfl)).alloc _) (by simp) hg3 hown hh1 rfl
  have HE : Hid (∃ x' T', OEnd w (w.heap.size + 1 + 1) (w.heap.size + 1) n ⟨.slice p0 n0 q0, .slice p1 n1 q1, .slice p2 n2 q2, .slice p3 n3 q3, .slice p4 n4 q4, .slice p5 n5 q5, .slice p6 n6 q6, .slice p7 n7 q7, .slice p8 n8 q8, .slice p9 n9 q9, .slice p10 n10 q10, .slice p11 n11 q11⟩ (w3.setCell ⟨w.heap.size + 1 + 1, 9, none⟩ (.slice pv Nv cv)) x' T') :=
    ⟨_, { T with dec := T.dec ++ [(131072, [7680 + z1])] }, HC.out.fin (i := 9) (by omega) hk3 (fun wz hz => by
      have o := HC.out.oldT HX.out hk3 wz hz
      exact ⟨o.cat, o.cls, o.joi, o.bid, o.scr, o.sta, o.ign, o.ext, o.map, (by have h := HC.out.maps hk3 ho3 (Nat.le_refl _) HQT.out hY (by have := HQL.out; simp; omega) wz hz; rw [HQM.out] at h; exact h), o.exc, o.pro⟩) ⟨Nat.le_trans HF.out.cat (by omega), Nat.le_trans HF.out.cls (by omega), Nat.le_trans HF.out.joi (by omega), Nat.le_trans HF.out.bid (by omega), Nat.le_trans HF.out.scr (by omega), Nat.le_trans HF.out.sta (by omega), Nat.le_trans HF.out.ign (by omega), Nat.le_trans HF.out.ext (by omega), Nat.le_trans HF.out.map (by omega), by simp only [List.length_append, List.length_cons, List.length_nil]; have := HF.out.dec; omega, Nat.le_trans HF.out.exc (by omega), Nat.le_trans HF.out.pro (by omega)⟩ (fun _ p n c e => row_cap ho3 e)⟩
  generalize (w3.setCell ⟨w.heap.size + 1 + 1, 9, none⟩ (.slice pv Nv cv)) = wx at HE ⊢
  clear ho1 hg1 hk1 hh1 hown ho3 hg3 hk3 hY c3 f3 ct
  generalize hrb : w.heap.size + 1 = rb at HE ⊢
  generalize hgg : w.heap.size + 1 + 1 = g at HE ⊢
  obtain ⟨⟨b0, b1, b2, b3, b4, b5, b6, b7, b8, b9, b10, b11⟩, T', he⟩ := HE.out
  have htv := he.tab wx (Keeps.refl _ _)
  obtain ⟨r0, m0, c0, hsl0⟩ : Slc b0 := htv.cat.slc
  subst hsl0
  obtain ⟨r1, m1, c1, hsl1⟩ : Slc b1 := htv.cls.slc
  subst hsl1
  obtain ⟨r2, m2, c2, hsl2⟩ : Slc b2 := htv.joi.slc
  subst hsl2
  obtain ⟨r3, m3, c3, hsl3⟩ : Slc b3 := htv.bid.slc
  subst hsl3
  obtain ⟨r4, m4, c4, hsl4⟩ : Slc b4 := htv.scr.slc
  subst hsl4
  obtain ⟨r5, m5, c5, hsl5⟩ : Slc b5 := htv.sta.slc
  subst hsl5
  obtain ⟨r6, m6, c6, hsl6⟩ : Slc b6 := htv.ign.slc
  subst hsl6
  obtain ⟨r7, m7, c7, hsl7⟩ : Slc b7 := htv.ext.slc
  subst hsl7
  obtain ⟨r8, m8, c8, hsl8⟩ : Slc b8 := htv.map.slc
  subst hsl8
  obtain ⟨r9, m9, c9, hsl9⟩ : Slc b9 := htv.dec.slc
  subst hsl9
  obtain ⟨r10, m10, c10, hsl10⟩ : Slc b10 := htv.exc.slc
  subst hsl10
  obtain ⟨r11, m11, c11, hsl11⟩ : Slc b11 := htv.pro.slc
  subst hsl11
  have HEE := Lib.hid he
  obtain ⟨⟨k0, k1, k2, k3, k4, k5⟩, ⟨k6, k7, k8, k9, k10, k11⟩⟩ := he.box.load
  simp only at k0 k1 k2 k3 k4 k5 k6 k7 k8 k9 k10 k11
  obtain ⟨s0, t0⟩ := he.res 0 (by omega)
  obtain ⟨s1, t1⟩ := he.res 1 (by omega)
  obtain ⟨s2, t2⟩ := he.res 2 (by omega)
  obtain ⟨s3, t3⟩ := he.res 3 (by omega)
  obtain ⟨s4, t4⟩ := he.res 4 (by omega)
  obtain ⟨s5, t5⟩ := he.res 5 (by omega)
  obtain ⟨s6, t6⟩ := he.res 6 (by omega)
  obtain ⟨s7, t7⟩ := he.res 7 (by omega)
  obtain ⟨s8, t8⟩ := he.res 8 (by omega)
  obtain ⟨s9, t9⟩ := he.res 9 (by omega)
  obtain ⟨s10, t10⟩ := he.res 10 (by omega)
  obtain ⟨s11, t11⟩ := he.res 11 (by omega)
  have HRB : Hid (w.heap.size ≤ rb) := by unfold Hid; omega
  clear HE he htv hrb hgg
  go_wp2
  obtain ⟨hbF, hkF⟩ := store12 wx rb (.slice r0 m0 c0) (.slice r1 m1 c1) (.slice r2 m2 c2) (.slice r3 m3 c3) (.slice r4 m4 c4) (.slice r5 m5 c5) (.slice r6 m6 c6) (.slice r7 m7 c7) (.slice r8 m8 c8) (.slice r9 m9 c9) (.slice r10 m10 c10) (.slice r11 m11 c11) HEE.out.res
  generalize (World.setCell (World.setCell (World.setCell (World.setCell (World.setCell (World.setCell (World.setCell (World.setCell (World.setCell (World.setCell (World.setCell (World.setCell (wx) ⟨rb, 0, none⟩ (.slice r0 m0 c0)) ⟨rb, 1, none⟩ (.slice r1 m1 c1)) ⟨rb, 2, none⟩ (.slice r2 m2 c2)) ⟨rb, 3, none⟩ (.slice r3 m3 c3)) ⟨rb, 4, none⟩ (.slice r4 m4 c4)) ⟨rb, 5, none⟩ (.slice r5 m5 c5)) ⟨rb, 6, none⟩ (.slice r6 m6 c6)) ⟨rb, 7, none⟩ (.slice r7 m7 c7)) ⟨rb, 8, none⟩ (.slice r8 m8 c8)) ⟨rb, 9, none⟩ (.slice r9 m9 c9)) ⟨rb, 10, none⟩ (.slice r10 m10 c10)) ⟨rb, 11, none⟩ (.slice r11 m11 c11)) = WF at hbF hkF ⊢
  obtain ⟨⟨Q0, Q1, Q2, Q3, Q4, Q5⟩, ⟨Q6, Q7, Q8, Q9, Q10, Q11⟩⟩ := hbF.load
  simp only at Q0 Q1 Q2 Q3 Q4 Q5 Q6 Q7 Q8 Q9 Q10 Q11
  refine bodyPost_ret (v := .agg #[.slice r0 m0 c0, .slice r1 m1 c1, .slice r2 m2 c2, .slice r3 m3 c3, .slice r4 m4 c4, .slice r5 m5 c5, .slice r6 m6 c6, .slice r7 m7 c7, .slice r8 m8 c8, .slice r9 m9 c9, .slice r10 m10 c10, .slice r11 m11 c11]) (by simp [results, Tryz.results10, go_sem, Q0, Q1, Q2, Q3, Q4, Q5, Q6, Q7, Q8, Q9, Q10, Q11]) rfl ?_
  exact ⟨⟨.slice r0 m0 c0, .slice r1 m1 c1, .slice r2 m2 c2, .slice r3 m3 c3, .slice r4 m4 c4, .slice r5 m5 c5, .slice r6 m6 c6, .slice r7 m7 c7, .slice r8 m8 c8, .slice r9 m9 c9, .slice r10 m10 c10, .slice r11 m11 c11⟩, T', rfl, HEE.out.tab WF hkF, HEE.out.few, HEE.out.cap, HEE.out.bel.trans (hkF.below HEE.out.bel.size (fun b _ e => by have := HRB.out; omega))⟩

set_option maxRecDepth 100000 in
set_option maxHeartbeats 4000000 in
theorem other_3b (x : TV) (T : Tb) (n : Nat) (how at' v : Int) (w : World) (hx : TabV w x T) (hf : Few n T) (hn : n ≤ 1000) (hk : Hid (pickS how 12 = 3)) (hk2 : Hid (pickS at' 2 = 1)) :
    Calls Tryz.prog 10 #[x.agg, .int .i64 how, .int .i64 at', .int .i64 v] w (OtherPost x n w) := by
  obtain ⟨a0, a1, a2, a3, a4, a5, a6, a7, a8, a9, a10, a11⟩ := x
  obtain ⟨p0, n0, q0, hsl0⟩ : Slc a0 := hx.cat.slc
  subst hsl0
  obtain ⟨p1, n1, q1, hsl1⟩ : Slc a1 := hx.cls.slc
  subst hsl1
  obtain ⟨p2, n2, q2, hsl2⟩ : Slc a2 := hx.joi.slc
  subst hsl2
  obtain ⟨p3, n3, q3, hsl3⟩ : Slc a3 := hx.bid.slc
  subst hsl3
  obtain ⟨p4, n4, q4, hsl4⟩ : Slc a4 := hx.scr.slc
  subst hsl4
  obtain ⟨p5, n5, q5, hsl5⟩ : Slc a5 := hx.sta.slc
  subst hsl5
  obtain ⟨p6, n6, q6, hsl6⟩ : Slc a6 := hx.ign.slc
  subst hsl6
  obtain ⟨p7, n7, q7, hsl7⟩ : Slc a7 := hx.ext.slc
  subst hsl7
  obtain ⟨p8, n8, q8, hsl8⟩ : Slc a8 := hx.map.slc
  subst hsl8
  obtain ⟨p9, n9, q9, hsl9⟩ : Slc a9 := hx.dec.slc
  subst hsl9
  obtain ⟨p10, n10, q10, hsl10⟩ : Slc a10 := hx.exc.slc
  subst hsl10
  obtain ⟨p11, n11, q11, hsl11⟩ : Slc a11 := hx.pro.slc
  subst hsl11
  have hC := OCase.new w ⟨.slice p0 n0 q0, .slice p1 n1 q1, .slice p2 n2 q2, .slice p3 n3 q3, .slice p4 n4 q4, .slice p5 n5 q5, .slice p6 n6 q6, .slice p7 n7 q7, .slice p8 n8 q8, .slice p9 n9 q9, .slice p10 n10 q10, .slice p11 n11 q11⟩ 29
  obtain ⟨W, hW⟩ : ∃ W, ((w.alloc (.cells #[.slice p0 n0 q0, .slice p1 n1 q1, .slice p2 n2 q2, .slice p3 n3 q3, .slice p4 n4 q4, .slice p5 n5 q5, .slice p6 n6 q6, .slice p7 n7 q7, .slice p8 n8 q8, .slice p9 n9 q9, .slice p10 n10 q10, .slice p11 n11 q11] 29)).alloc (.cells nilC 29)).alloc (.cells #[.slice p0 n0 q0, .slice p1 n1 q1, .slice p2 n2 q2, .slice p3 n3 q3, .slice p4 n4 q4, .slice p5 n5 q5, .slice p6 n6 q6, .slice p7 n7 q7, .slice p8 n8 q8, .slice p9 n9 q9, .slice p10 n10 q10, .slice p11 n11 q11] 29) = W := ⟨_, rfl⟩
  simp only [tabCells] at hC
  rw [hW] at hC
  have HC := Lib.hid hC
  have HX := Lib.hid hx
  have HF := Lib.hid hf
  obtain ⟨pp, cc, he9, hin9, hl9⟩ := hx.dec
  injection he9 with e1 e2 e3
  subst e1
  subst e3
  obtain ⟨Q, hQm, hQi, hQt⟩ := mq_of hin9
  have hQl : Q.length = n9 := by rw [e2, ← hQm, List.length_map]
  have hle : n9 ≤ n := by rw [e2]; exact hf.dec
  have HQM := Lib.hid hQm
  have HQI := Lib.hid (hQi.below hC.bel)
  have HQT := Lib.hid hQt
  have HQL := Lib.hid hQl
  have ct : W.cell? ⟨w.heap.size, 9, none⟩ = some (.slice p9 n9 q9) := hC.cellT (by omega)
  clear hin9 hl9 hQm hQi hQt e2
  obtain ⟨z1, HZ1, y0, y1⟩ := pick_nm v 6 (by omega)
  go_enter Tryz.func10, Tryz.ntmps10
  go_wp2_with fail
  refine (pick_at how 12 3 _ (by omega) (by omega) hk).mono ?_
  rintro e wz ⟨rfl, rfl⟩
  clear hW hC hx hf hk
  go_upto_region 28 with (first
    | (at_builtin; refine wpList_append_maps (.const (.slice none 0 0)) (.tmp 68) rfl rfl W.heap.size (.slice none 0 0) [] rfl (RowQ.nil _ _) p9 n9 q9 Q HQL.out rfl HQI.out (by have := HQL.out; simp; omega) (Nat.le_refl _) ?_; intro v1 w1 ho1 hg1; have hk1 : Keeps W w1 (fun _ => False) := keeps_g hg1; have hh1 := hk1.size)
    | (go_at_call 9; (with_reducible refine (pick_at v 6 z1 _ (by omega) (by omega) HZ1).mono ?_); rintro e wn ⟨rfl, rfl⟩)
    | (go_at_call 9; (with_reducible refine (pick_at at' 2 1 _ (by omega) (by omega) hk2).mono ?_); rintro e wn ⟨rfl, rfl⟩)
    | (at_builtin; refine wpList_append_map1 (.tmp 69) (.tmp 79) rfl rfl W.heap.size v1 ([] ++ Q) rfl (World.ownsRow.alloc ho1 _) 131072 [7680 + z1, 769] _ _ _ rfl (by simp) rfl (by have := HQL.out; simp; omega) (Nat.le_trans hh1 (by simp <;> omega)) ?_; intro v3 w3 ho3 hg3; have hk3 : Keeps W w3 (fun _ => False) := keeps_two hk1 ho1 (ka2 w1 _ _) hg3; have hcf : w3.cell? ⟨w.heap.size + 1 + 1, 9, none⟩ = some (.slice p9 n9 q9) ∧ w3.frozen? ⟨w.heap.size + 1 + 1, 9, none⟩ = false := HC.out.cellG hk3 (by omega); obtain ⟨c3, f3⟩ := hcf; obtain ⟨pv, cv, Nv, rfl⟩ : ∃ p c N, v3 = .slice p N c := (by obtain ⟨p, c, e⟩ := RowQ.slice ho3; exact ⟨p, c, _, e⟩)))
  have hown : ∀ k, v1.ownBlock = some k → k < w1.heap.size := fun k hk => (World.ownsRow.lt ho1 k hk).2
  rw [List.nil_append] at ho3
  have hY : ∀ q ∈ [((131072, [7680 + z1, 769]), .slice (some ⟨w1.heap.size, 0, none⟩) 2 2)], NewTo W w3 q := by
    intro q hq
    simp only [List.mem_cons, List.not_mem_nil, or_false] at hq
    subst hq
    exact new_to (W := W) (b := w1.heap.size) (off := 0) ((ints_cells w1 #[.int .i64 (7680 + z1), .int .i64 769] 3 0 [7680 + z1, 769] rfl (by intro k hk; have hk2 : k = 0 ∨ k = 1 := (by simp at hk; omega); rcases hk2 with rfl | rfl <;> rfl)).alloc _) (by simp) hg3 hown hh1 rfl
  have HE : Hid (∃ x' T', OEnd w (w.heap.size + 1 + 1) (w.heap.size + 1) n ⟨.slice p0 n0 q0, .slice p1 n1 q1, .slice p2 n2 q2, .slice p3 n3 q3, .slice p4 n4 q4, .slice p5 n5 q5, .slice p6 n6 q6, .slice p7 n7 q7, .slice p8 n8 q8, .slice p9 n9 q9, .slice p10 n10 q10, .slice p11 n11 q11⟩ (w3.setCell ⟨w.heap.size + 1 + 1, 9, none⟩ (.slice pv Nv cv)) x' T') :=
    ⟨_, { T with dec := T.dec ++ [(131072, [7680 + z1, 769])] }, HC.out.fin (i := 9) (by omega) hk3 (fun wz hz => by
      have o := HC.out.oldT HX.out hk3 wz hz
      exact ⟨o.cat, o.cls, o.joi, o.bid, o.scr, o.sta, o.ign, o.ext, o.map, (by have h := HC.out.maps hk3 ho3 (Nat.le_refl _) HQT.out hY (by have := HQL.out; simp; omega) wz hz; rw [HQM.out] at h; exact h), o.exc, o.pro⟩) ⟨Nat.le_trans HF.out.cat (by omega), Nat.le_trans HF.out.cls (by omega), Nat.le_trans HF.out.joi (by omega), Nat.le_trans HF.out.bid (by omega), Nat.le_trans HF.out.scr (by omega), Nat.le_trans HF.out.sta (by omega), Nat.le_trans HF.out.ign (by omega), Nat.le_trans HF.out.ext (by omega), Nat.le_trans HF.out.map (by omega), by simp only [List.length_append, List.length_cons, List.length_nil]; have := HF.out.dec; omega, Nat.le_trans HF.out.exc (by omega), Nat.le_trans HF.out.pro (by omega)⟩ (fun _ p n c e => row_cap ho3 e)⟩
  generalize (w3.setCell ⟨w.heap.size + 1 + 1, 9, none⟩ (.slice pv Nv cv)) = wx at HE ⊢
  clear ho1 hg1 hk1 hh1 hown ho3 hg3 hk3 hY c3 f3 ct
  generalize hrb : w.heap.size + 1 = rb at HE ⊢
  generalize hgg : w.heap.size + 1 + 1 = g at HE ⊢
  obtain ⟨⟨b0, b1, b2, b3, b4, b5, b6, b7, b8, b9, b10, b11⟩, T', he⟩ := HE.out
  have htv := he.tab wx (Keeps.refl _ _)
  obtain ⟨r0, m0, c0, hsl0⟩ : Slc b0 := htv.cat.slc
  subst hsl0
  obtain ⟨r1, m1, c1, hsl1⟩ : Slc b1 := htv.cls.slc
  subst hsl1
  obtain ⟨r2, m2, c2, hsl2⟩ : Slc b2 := htv.joi.slc
  subst hsl2
  obtain ⟨r3, m3, c3, hsl3⟩ : Slc b3 := htv.bid.slc
  subst hsl3
  obtain ⟨r4, m4, c4, hsl4⟩ : Slc b4 := htv.scr.slc
  subst hsl4
  obtain ⟨r5, m5, c5, hsl5⟩ : Slc b5 := htv.sta.slc
  subst hsl5
  obtain ⟨r6, m6, c6, hsl6⟩ : Slc b6 := htv.ign.slc
  subst hsl6
  obtain ⟨r7, m7, c7, hsl7⟩ : Slc b7 := htv.ext.slc
  subst hsl7
  obtain ⟨r8, m8, c8, hsl8⟩ : Slc b8 := htv.map.slc
  subst hsl8
  obtain ⟨r9, m9, c9, hsl9⟩ : Slc b9 := htv.dec.slc
  subst hsl9
  obtain ⟨r10, m10, c10, hsl10⟩ : Slc b10 := htv.exc.slc
  subst hsl10
  obtain ⟨r11, m11, c11, hsl11⟩ : Slc b11 := htv.pro.slc
  subst hsl11
  have HEE := Lib.hid he
  obtain ⟨⟨k0, k1, k2, k3, k4, k5⟩, ⟨k6, k7, k8, k9, k10, k11⟩⟩ := he.box.load
  simp only at k0 k1 k2 k3 k4 k5 k6 k7 k8 k9 k10 k11
  obtain ⟨s0, t0⟩ := he.res 0 (by omega)
  obtain ⟨s1, t1⟩ := he.res 1 (by omega)
  obtain ⟨s2, t2⟩ := he.res 2 (by omega)
  obtain ⟨s3, t3⟩ := he.res 3 (by omega)
  obtain ⟨s4, t4⟩ := he.res 4 (by omega)
  obtain ⟨s5, t5⟩ := he.res 5 (by omega)
  obtain ⟨s6, t6⟩ := he.res 6 (by omega)
  obtain ⟨s7, t7⟩ := he.res 7 (by omega)
  obtain ⟨s8, t8⟩ := he.res 8 (by omega)
  obtain ⟨s9, t9⟩ := he.res 9 (by omega)
  obtain ⟨s10, t10⟩ := he.res 10 (by omega)
  obtain ⟨s11, t11⟩ := he.res 11 (by omega)
  have HRB : Hid (w.heap.size ≤ rb) := by unfold Hid; omega
  clear HE he htv hrb hgg
  go_wp2
  obtain ⟨hbF, hkF⟩ := store12 wx rb (.slice r0 m0 c0) (.slice r1 m1 c1) (.slice r2 m2 c2) (.slice r3 m3 c3) (.slice r4 m4 c4) (.slice r5 m5 c5) (.slice r6 m6 c6) (.slice r7 m7 c7) (.slice r8 m8 c8) (.slice r9 m9 c9) (.slice r10 m10 c10) (.slice r11 m11 c11) HEE.out.res
  generalize (World.setCell (World.setCell (World.setCell (World.setCell (World.setCell (World.setCell (World.setCell (World.setCell (World.setCell (World.setCell (World.setCell (World.setCell (wx) ⟨rb, 0, none⟩ (.slice r0 m0 c0)) ⟨rb, 1, none⟩ (.slice r1 m1 c1)) ⟨rb, 2, none⟩ (.slice r2 m2 c2)) ⟨rb, 3, none⟩ (.slice r3 m3 c3)) ⟨rb, 4, none⟩ (.slice r4 m4 c4)) ⟨rb, 5, none⟩ (.slice r5 m5 c5)) ⟨rb, 6, none⟩ (.slice r6 m6 c6)) ⟨rb, 7, none⟩ (.slice r7 m7 c7)) ⟨rb, 8, none⟩ (.slice r8 m8 c8)) ⟨rb, 9, none⟩ (.slice r9 m9 c9)) ⟨rb, 10, none⟩ (.slice r10 m10 c10)) ⟨rb, 11, none⟩ (.slice r11 m11 c11)) = WF at hbF hkF ⊢
  obtain ⟨⟨Q0, Q1, Q2, Q3, Q4, Q5⟩, ⟨Q6, Q7, Q8, Q9, Q10, Q11⟩⟩ := hbF.load
  simp only at Q0 Q1 Q2 Q3 Q4 Q5 Q6 Q7 Q8 Q9 Q10 Q11
  refine bodyPost_ret (v := .agg #[.slice r0 m0 c0, .slice r1 m1 c1, .slice r2 m2 c2, .slice r3 m3 c3, .slice r4 m4 c4, .slice r5 m5 c5, .slice r6 m6 c6, .slice r7 m7 c7, .slice r8 m8 c8, .slice r9 m9 c9, .slice r10 m10 c10, .slice r11 m11 c11]) (by simp [results, Tryz.results10, go_sem, Q0, Q1, Q2, Q3, Q4, Q5, Q6, Q7, Q8, Q9, Q10, Q11]) rfl ?_
  exact ⟨⟨.slice r0 m0 c0, .slice r1 m1 c1, .slice r2 m2 c2, .slice r3 m3 c3, .slice r4 m4 c4, .slice r5 m5 c5, .slice r6 m6 c6, .slice r7 m7 c7, .slice r8 m8 c8, .slice r9 m9 c9, .slice r10 m10 c10, .slice r11 m11 c11⟩, T', rfl, HEE.out.tab WF hkF, HEE.out.few, HEE.out.cap, HEE.out.bel.trans (hkF.below HEE.out.bel.size (fun b _ e => by have := HRB.out; omega))⟩

set_option maxRecDepth 100000 in
set_option maxHeartbeats 4000000 in
theorem other_7 (x : TV) (T : Tb) (n : Nat) (how at' v : Int) (w : World) (hx : TabV w x T) (hf : Few n T) (hn : n ≤ 1000) (hk : Hid (pickS how 12 = 7)) :
    Calls Tryz.prog 10 #[x.agg, .int .i64 how, .int .i64 at', .int .i64 v] w (OtherPost x n w) := by
  obtain ⟨a0, a1, a2, a3, a4, a5, a6, a7, a8, a9, a10, a11⟩ := x
  obtain ⟨p0, n0, q0, hsl0⟩ : Slc a0 := hx.cat.slc
  subst hsl0
  obtain ⟨p1, n1, q1, hsl1⟩ : Slc a1 := hx.cls.slc
  subst hsl1
  obtain ⟨p2, n2, q2, hsl2⟩ : Slc a2 := hx.joi.slc
  subst hsl2
  obtain ⟨p3, n3, q3, hsl3⟩ : Slc a3 := hx.bid.slc
  subst hsl3
  obtain ⟨p4, n4, q4, hsl4⟩ : Slc a4 := hx.scr.slc
  subst hsl4
  obtain ⟨p5, n5, q5, hsl5⟩ : Slc a5 := hx.sta.slc
  subst hsl5
  obtain ⟨p6, n6, q6, hsl6⟩ : Slc a6 := hx.ign.slc
  subst hsl6
  obtain ⟨p7, n7, q7, hsl7⟩ : Slc a7 := hx.ext.slc
  subst hsl7
  obtain ⟨p8, n8, q8, hsl8⟩ : Slc a8 := hx.map.slc
  subst hsl8
  obtain ⟨p9, n9, q9, hsl9⟩ : Slc a9 := hx.dec.slc
  subst hsl9
  obtain ⟨p10, n10, q10, hsl10⟩ : Slc a10 := hx.exc.slc
  subst hsl10
  obtain ⟨p11, n11, q11, hsl11⟩ : Slc a11 := hx.pro.slc
  subst hsl11
  have hC := OCase.new w ⟨.slice p0 n0 q0, .slice p1 n1 q1, .slice p2 n2 q2, .slice p3 n3 q3, .slice p4 n4 q4, .slice p5 n5 q5, .slice p6 n6 q6, .slice p7 n7 q7, .slice p8 n8 q8, .slice p9 n9 q9, .slice p10 n10 q10, .slice p11 n11 q11⟩ 29
  obtain ⟨W, hW⟩ : ∃ W, ((w.alloc (.cells #[.slice p0 n0 q0, .slice p1 n1 q1, .slice p2 n2 q2, .slice p3 n3 q3, .slice p4 n4 q4, .slice p5 n5 q5, .slice p6 n6 q6, .slice p7 n7 q7, .slice p8 n8 q8, .slice p9 n9 q9, .slice p10 n10 q10, .slice p11 n11 q11] 29)).alloc (.cells nilC 29)).alloc (.cells #[.slice p0 n0 q0, .slice p1 n1 q1, .slice p2 n2 q2, .slice p3 n3 q3, .slice p4 n4 q4, .slice p5 n5 q5, .slice p6 n6 q6, .slice p7 n7 q7, .slice p8 n8 q8, .slice p9 n9 q9, .slice p10 n10 q10, .slice p11 n11 q11] 29) = W := ⟨_, rfl⟩
  simp only [tabCells] at hC
  rw [hW] at hC
  have HC := Lib.hid hC
  have HX := Lib.hid hx
  have HF := Lib.hid hf
  obtain ⟨pp, cc, he8, hin8, hl8⟩ := hx.map
  injection he8 with e1 e2 e3
  subst e1
  subst e3
  obtain ⟨Q, hQm, hQi, hQt⟩ := mq_of hin8
  have hQl : Q.length = n8 := by rw [e2, ← hQm, List.length_map]
  have hle : n8 ≤ n := by rw [e2]; exact hf.map
  have HQM := Lib.hid hQm
  have HQI := Lib.hid (hQi.below hC.bel)
  have HQT := Lib.hid hQt
  have HQL := Lib.hid hQl
  have ct : W.cell? ⟨w.heap.size, 8, none⟩ = some (.slice p8 n8 q8) := hC.cellT (by omega)
  clear hin8 hl8 hQm hQi hQt e2
  go_enter Tryz.func10, Tryz.ntmps10
  go_wp2_with fail
  refine (pick_at how 12 7 _ (by omega) (by omega) hk).mono ?_
  rintro e wz ⟨rfl, rfl⟩
  clear hW hC hx hf hk
  go_upto_region 28 with (first
    | (at_builtin; refine wpList_append_maps (.const (.slice none 0 0)) (.tmp 128) rfl rfl W.heap.size (.slice none 0 0) [] rfl (RowQ.nil _ _) p8 n8 q8 Q HQL.out rfl HQI.out (by have := HQL.out; simp; omega) (Nat.le_refl _) ?_; intro v1 w1 ho1 hg1; have hk1 : Keeps W w1 (fun _ => False) := keeps_g hg1; have hh1 := hk1.size)
    | (at_builtin; refine wpList_append_map1 (.tmp 129) (.tmp 132) rfl rfl W.heap.size v1 ([] ++ Q) rfl (World.ownsRow.alloc ho1 _) 131072 [97] _ _ _ rfl (by simp) rfl (by have := HQL.out; simp; omega) (Nat.le_trans hh1 (by simp <;> omega)) ?_; intro v3 w3 ho3 hg3; have hk3 : Keeps W w3 (fun _ => False) := keeps_two hk1 ho1 (ka2 w1 _ _) hg3; have hcf : w3.cell? ⟨w.heap.size + 1 + 1, 8, none⟩ = some (.slice p8 n8 q8) ∧ w3.frozen? ⟨w.heap.size + 1 + 1, 8, none⟩ = false := HC.out.cellG hk3 (by omega); obtain ⟨c3, f3⟩ := hcf; obtain ⟨pv, cv, Nv, rfl⟩ : ∃ p c N, v3 = .slice p N c := (by obtain ⟨p, c, e⟩ := RowQ.slice ho3; exact ⟨p, c, _, e⟩)))
  have hown : ∀ k, v1.ownBlock = some k → k < w1.heap.size := fun k hk => (World.ownsRow.lt ho1 k hk).2
  rw [List.nil_append] at ho3
  have hY : ∀ q ∈ [((131072, [97]), .slice (some ⟨w1.heap.size, 0, none⟩) 1 1)], NewTo W w3 q := by
    intro q hq
    simp only [List.mem_cons, List.not_mem_nil, or_false] at hq
    subst hq
    exact new_to (W := W) (b := w1.heap.size) (off := 0) ((ints_cells w1 #[.int .i64 97] 3 0 [97] rfl (by intro k hk; have hk2 : k = 0 := (by simp at hk; omega); rcases hk2 with rfl; rfl)).alloc _) (by simp) hg3 hown hh1 rfl
  have HE : Hid (∃ x' T', OEnd w (w.heap.size + 1 + 1) (w.heap.size + 1) n ⟨.slice p0 n0 q0, .slice p1 n1 q1, .slice p2 n2 q2, .slice p3 n3 q3, .slice p4 n4 q4, .slice p5 n5 q5, .slice p6 n6 q6, .slice p7 n7 q7, .slice p8 n8 q8, .slice p9 n9 q9, .slice p10 n10 q10, .slice p11 n11 q11⟩ (w3.setCell ⟨w.heap.size + 1 + 1, 8, none⟩ (.slice pv Nv cv)) x' T') :=
    ⟨_, { T with map := T.map ++ [(131072, [97])] }, HC.out.fin (i := 8) (by omega) hk3 (fun wz hz => by
      have o := HC.out.oldT HX.out hk3 wz hz
      exact ⟨o.cat, o.cls, o.joi, o.bid, o.scr, o.sta, o.ign, o.ext, (by have h := HC.out.maps hk3 ho3 (Nat.le_refl _) HQT.out hY (by have := HQL.out; simp; omega) wz hz; rw [HQM.out] at h; exact h), o.dec, o.exc, o.pro⟩) ⟨Nat.le_trans HF.out.cat (by omega), Nat.le_trans HF.out.cls (by omega), Nat.le_trans HF.out.joi (by omega), Nat.le_trans HF.out.bid (by omega), Nat.le_trans HF.out.scr (by omega), Nat.le_trans HF.out.sta (by omega), Nat.le_trans HF.out.ign (by omega), Nat.le_trans HF.out.ext (by omega), by simp only [List.length_append, List.length_cons, List.length_nil]; have := HF.out.map; omega, Nat.le_trans HF.out.dec (by omega), Nat.le_trans HF.out.exc (by omega), Nat.le_trans HF.out.pro (by omega)⟩ (fun h p n c e => h p n c e)⟩
  generalize (w3.setCell ⟨w.heap.size + 1 + 1, 8, none⟩ (.slice pv Nv cv)) = wx at HE ⊢
  clear ho1 hg1 hk1 hh1 hown ho3 hg3 hk3 hY c3 f3 ct
  generalize hrb : w.heap.size + 1 = rb at HE ⊢
  generalize hgg : w.heap.size + 1 + 1 = g at HE ⊢
  obtain ⟨⟨b0, b1, b2, b3, b4, b5, b6, b7, b8, b9, b10, b11⟩, T', he⟩ := HE.out
  have htv := he.tab wx (Keeps.refl _ _)
  obtain ⟨r0, m0, c0, hsl0⟩ : Slc b0 := htv.cat.slc
  subst hsl0
  obtain ⟨r1, m1, c1, hsl1⟩ : Slc b1 := htv.cls.slc
  subst hsl1
  obtain ⟨r2, m2, c2, hsl2⟩ : Slc b2 := htv.joi.slc
  subst hsl2
  obtain ⟨r3, m3, c3, hsl3⟩ : Slc b3 := htv.bid.slc
  subst hsl3
  obtain ⟨r4, m4, c4, hsl4⟩ : Slc b4 := htv.scr.slc
  subst hsl4
  obtain ⟨r5, m5, c5, hsl5⟩ : Slc b5 := htv.sta.slc
  subst hsl5
  obtain ⟨r6, m6, c6, hsl6⟩ : Slc b6 := htv.ign.slc
  subst hsl6
  obtain ⟨r7, m7, c7, hsl7⟩ : Slc b7 := htv.ext.slc
  subst hsl7
  obtain ⟨r8, m8, c8, hsl8⟩ : Slc b8 := htv.map.slc
  subst hsl8
  obtain ⟨r9, m9, c9, hsl9⟩ : Slc b9 := htv.dec.slc
  subst hsl9
  obtain ⟨r10, m10, c10, hsl10⟩ : Slc b10 := htv.exc.slc
  subst hsl10
  obtain ⟨r11, m11, c11, hsl11⟩ : Slc b11 := htv.pro.slc
  subst hsl11
  have HEE := Lib.hid he
  obtain ⟨⟨k0, k1, k2, k3, k4, k5⟩, ⟨k6, k7, k8, k9, k10, k11⟩⟩ := he.box.load
  simp only at k0 k1 k2 k3 k4 k5 k6 k7 k8 k9 k10 k11
  obtain ⟨s0, t0⟩ := he.res 0 (by omega)
  obtain ⟨s1, t1⟩ := he.res 1 (by omega)
  obtain ⟨s2, t2⟩ := he.res 2 (by omega)
  obtain ⟨s3, t3⟩ := he.res 3 (by omega)
  obtain ⟨s4, t4⟩ := he.res 4 (by omega)
  obtain ⟨s5, t5⟩ := he.res 5 (by omega)
  obtain ⟨s6, t6⟩ := he.res 6 (by omega)
  obtain ⟨s7, t7⟩ := he.res 7 (by omega)
  obtain ⟨s8, t8⟩ := he.res 8 (by omega)
  obtain ⟨s9, t9⟩ := he.res 9 (by omega)
  obtain ⟨s10, t10⟩ := he.res 10 (by omega)
  obtain ⟨s11, t11⟩ := he.res 11 (by omega)
  have HRB : Hid (w.heap.size ≤ rb) := by unfold Hid; omega
  clear HE he htv hrb hgg
  go_wp2
  obtain ⟨hbF, hkF⟩ := store12 wx rb (.slice r0 m0 c0) (.slice r1 m1 c1) (.slice r2 m2 c2) (.slice r3 m3 c3) (.slice r4 m4 c4) (.slice r5 m5 c5) (.slice r6 m6 c6) (.slice r7 m7 c7) (.slice r8 m8 c8) (.slice r9 m9 c9) (.slice r10 m10 c10) (.slice r11 m11 c11) HEE.out.res
  generalize (World.setCell (World.setCell (World.setCell (World.setCell (World.setCell (World.setCell (World.setCell (World.setCell (World.setCell (World.setCell (World.setCell (World.setCell (wx) ⟨rb, 0, none⟩ (.slice r0 m0 c0)) ⟨rb, 1, none⟩ (.slice r1 m1 c1)) ⟨rb, 2, none⟩ (.slice r2 m2 c2)) ⟨rb, 3, none⟩ (.slice r3 m3 c3)) ⟨rb, 4, none⟩ (.slice r4 m4 c4)) ⟨rb, 5, none⟩ (.slice r5 m5 c5)) ⟨rb, 6, none⟩ (.slice r6 m6 c6)) ⟨rb, 7, none⟩ (.slice r7 m7 c7)) ⟨rb, 8, none⟩ (.slice r8 m8 c8)) ⟨rb, 9, none⟩ (.slice r9 m9 c9)) ⟨rb, 10, none⟩ (.slice r10 m10 c10)) ⟨rb, 11, none⟩ (.slice r11 m11 c11)) = WF at hbF hkF ⊢
  obtain ⟨⟨Q0, Q1, Q2, Q3, Q4, Q5⟩, ⟨Q6, Q7, Q8, Q9, Q10, Q11⟩⟩ := hbF.load
  simp only at Q0 Q1 Q2 Q3 Q4 Q5 Q6 Q7 Q8 Q9 Q10 Q11
  refine bodyPost_ret (v := .agg #[.slice r0 m0 c0, .slice r1 m1 c1, .slice r2 m2 c2, .slice r3 m3 c3, .slice r4 m4 c4, .slice r5 m5 c5, .slice r6 m6 c6, .slice r7 m7 c7, .slice r8 m8 c8, .slice r9 m9 c9, .slice r10 m10 c10, .slice r11 m11 c11]) (by simp [results, Tryz.results10, go_sem, Q0, Q1, Q2, Q3, Q4, Q5, Q6, Q7, Q8, Q9, Q10, Q11]) rfl ?_
  exact ⟨⟨.slice r0 m0 c0, .slice r1 m1 c1, .slice r2 m2 c2, .slice r3 m3 c3, .slice r4 m4 c4, .slice r5 m5 c5, .slice r6 m6 c6, .slice r7 m7 c7, .slice r8 m8 c8, .slice r9 m9 c9, .slice r10 m10 c10, .slice r11 m11 c11⟩, T', rfl, HEE.out.tab WF hkF, HEE.out.few, HEE.out.cap, HEE.out.bel.trans (hkF.below HEE.out.bel.size (fun b _ e => by have := HRB.out; omega))⟩

set_option maxRecDepth 100000 in
set_option maxHeartbeats 4000000 in
theorem other_11a (x : TV) (T : Tb) (n : Nat) (how at' v : Int) (w : World) (hx : TabV w x T) (hf : Few n T) (hn : n ≤ 1000) (hk : Hid (pickS how 12 = 11)) (hk2 : Hid (pickS v 2 = 0)) :
    Calls Tryz.prog 10 #[x.agg, .int .i64 how, .int .i64 at', .int .i64 v] w (OtherPost x n w) := by
  obtain ⟨a0, a1, a2, a3, a4, a5, a6, a7, a8, a9, a10, a11⟩ := x
  obtain ⟨p0, n0, q0, hsl0⟩ : Slc a0 := hx.cat.slc
  subst hsl0
  obtain ⟨p1, n1, q1, hsl1⟩ : Slc a1 := hx.cls.slc
  subst hsl1
  obtain ⟨p2, n2, q2, hsl2⟩ : Slc a2 := hx.joi.slc
  subst hsl2
  obtain ⟨p3, n3, q3, hsl3⟩ : Slc a3 := hx.bid.slc
  subst hsl3
  obtain ⟨p4, n4, q4, hsl4⟩ : Slc a4 := hx.scr.slc
  subst hsl4
  obtain ⟨p5, n5, q5, hsl5⟩ : Slc a5 := hx.sta.slc
  subst hsl5
  obtain ⟨p6, n6, q6, hsl6⟩ : Slc a6 := hx.ign.slc
  subst hsl6
  obtain ⟨p7, n7, q7, hsl7⟩ : Slc a7 := hx.ext.slc
  subst hsl7
  obtain ⟨p8, n8, q8, hsl8⟩ : Slc a8 := hx.map.slc
  subst hsl8
  obtain ⟨p9, n9, q9, hsl9⟩ : Slc a9 := hx.dec.slc
  subst hsl9
  obtain ⟨p10, n10, q10, hsl10⟩ : Slc a10 := hx.exc.slc
  subst hsl10
  obtain ⟨p11, n11, q11, hsl11⟩ : Slc a11 := hx.pro.slc
  subst hsl11
  have hC := OCase.new w ⟨.slice p0 n0 q0, .slice p1 n1 q1, .slice p2 n2 q2, .slice p3 n3 q3, .slice p4 n4 q4, .slice p5 n5 q5, .slice p6 n6 q6, .slice p7 n7 q7, .slice p8 n8 q8, .slice p9 n9 q9, .slice p10 n10 q10, .slice p11 n11 q11⟩ 29
  obtain ⟨W, hW⟩ : ∃ W, ((w.alloc (.cells #[.slice p0 n0 q0, .slice p1 n1 q1, .slice p2 n2 q2, .slice p3 n3 q3, .slice p4 n4 q4, .slice p5 n5 q5, .slice p6 n6 q6, .slice p7 n7 q7, .slice p8 n8 q8, .slice p9 n9 q9, .slice p10 n10 q10, .slice p11 n11 q11] 29)).alloc (.cells nilC 29)).alloc (.cells #[.slice p0 n0 q0, .slice p1 n1 q1, .slice p2 n2 q2, .slice p3 n3 q3, .slice p4 n4 q4, .slice p5 n5 q5, .slice p6 n6 q6, .slice p7 n7 q7, .slice p8 n8 q8, .slice p9 n9 q9, .slice p10 n10 q10, .slice p11 n11 q11] 29) = W := ⟨_, rfl⟩
  simp only [tabCells] at hC
  rw [hW] at hC
  have HC := Lib.hid hC
  have HX := Lib.hid hx
  have HF := Lib.hid hf
  obtain ⟨pp, cc, he9, hin9, hl9⟩ := hx.dec
  injection he9 with e1 e2 e3
  subst e1
  subst e3
  obtain ⟨Q, hQm, hQi, hQt⟩ := mq_of hin9
  have hQl : Q.length = n9 := by rw [e2, ← hQm, List.length_map]
  have hle : n9 ≤ n := by rw [e2]; exact hf.dec
  have HQM := Lib.hid hQm
  have HQI := Lib.hid (hQi.below hC.bel)
  have HQT := Lib.hid hQt
  have HQL := Lib.hid hQl
  have ct : W.cell? ⟨w.heap.size, 9, none⟩ = some (.slice p9 n9 q9) := hC.cellT (by omega)
  clear hin9 hl9 hQm hQi hQt e2
  go_enter Tryz.func10, Tryz.ntmps10
  go_wp2_with fail
  refine (pick_at how 12 11 _ (by omega) (by omega) hk).mono ?_
  rintro e wz ⟨rfl, rfl⟩
  clear hW hC hx hf hk
  go_upto_region 28 with (first
    | (at_builtin; refine wpList_append_maps (.const (.slice none 0 0)) (.tmp 14) rfl rfl W.heap.size (.slice none 0 0) [] rfl (RowQ.nil _ _) p9 n9 q9 Q HQL.out rfl HQI.out (by have := HQL.out; simp; omega) (Nat.le_refl _) ?_; intro v1 w1 ho1 hg1; have hk1 : Keeps W w1 (fun _ => False) := keeps_g hg1; have hh1 := hk1.size)
    | (go_at_call 9; (with_reducible refine (pick_at v 2 0 _ (by omega) (by omega) hk2).mono ?_); rintro e wn ⟨rfl, rfl⟩)
    | (at_builtin; refine wpList_append_map2 (.tmp 15) (.tmp 23) rfl rfl W.heap.size v1 ([] ++ Q) rfl (World.ownsRow.alloc (World.ownsRow.alloc ho1 _) _) 131072 [131073] _ 131073 [98, 131072] _ _ _ rfl (by simp) rfl rfl (by have := HQL.out; simp; omega) (Nat.le_trans hh1 (by simp <;> omega)) ?_; intro v3 w3 ho3 hg3; have hk3 : Keeps W w3 (fun _ => False) := keeps_two hk1 ho1 (ka3 w1 _ _ _) hg3; have hcf : w3.cell? ⟨w.heap.size + 1 + 1, 9, none⟩ = some (.slice p9 n9 q9) ∧ w3.frozen? ⟨w.heap.size + 1 + 1, 9, none⟩ = false := HC.out.cellG hk3 (by omega); obtain ⟨c3, f3⟩ := hcf; obtain ⟨pv, cv, Nv, rfl⟩ : ∃ p c N, v3 = .slice p N c := (by obtain ⟨p, c, e⟩ := RowQ.slice ho3; exact ⟨p, c, _, e⟩)))
  have hown : ∀ k, v1.ownBlock = some k → k < w1.heap.size := fun k hk => (World.ownsRow.lt ho1 k hk).2
  rw [List.nil_append] at ho3
  have hY : ∀ q ∈ [((131072, [131073]), .slice (some ⟨w1.heap.size, 0, none⟩) 1 1), ((131073, [98, 131072]), .slice (some ⟨w1.heap.size + 1, 0, none⟩) 2 2)], NewTo W w3 q := by
    intro q hq
    simp only [List.mem_cons, List.not_mem_nil, or_false] at hq
    rcases hq with rfl | rfl
    · exact new_to (W := W) (b := w1.heap.size) (off := 0) (((ints_cells w1 #[.int .i64 131073] 3 0 [131073] rfl (by intro k hk; have hk2 : k = 0 := (by simp at hk; omega); rcases hk2 with rfl; rfl)).alloc _).alloc _) (by simp) hg3 hown hh1 rfl
    · exact new_to (W := W) (b := w1.heap.size + 1) (off := 0) ((ints_cells (w1.alloc (.cells #[.int .i64 131073] 3)) #[.int .i64 98, .int .i64 131072] 3 0 [98, 131072] (by simp) (by intro k hk; have hk2 : k = 0 ∨ k = 1 := (by simp at hk; omega); rcases hk2 with rfl | rfl <;> rfl)).alloc _) (by simp) hg3 (fun k hk => Nat.lt_succ_of_lt (hown k hk)) (Nat.le_succ_of_le hh1) rfl
  have HE : Hid (∃ x' T', OEnd w (w.heap.size + 1 + 1) (w.heap.size + 1) n ⟨.slice p0 n0 q0, .slice p1 n1 q1, .slice p2 n2 q2, .slice p3 n3 q3, .slice p4 n4 q4, .slice p5 n5 q5, .slice p6 n6 q6, .slice p7 n7 q7, .slice p8 n8 q8, .slice p9 n9 q9, .slice p10 n10 q10, .slice p11 n11 q11⟩ (w3.setCell ⟨w.heap.size + 1 + 1, 9, none⟩ (.slice pv Nv cv)) x' T') :=
    ⟨_, { T with dec := T.dec ++ [(131072, [131073]), (131073, [98, 131072])] }, HC.out.fin (i := 9) (by omega) hk3 (fun wz hz => by
      have o := HC.out.oldT HX.out hk3 wz hz
      exact ⟨o.cat, o.cls, o.joi, o.bid, o.scr, o.sta, o.ign, o.ext, o.map, (by have h := HC.out.maps hk3 ho3 (Nat.le_refl _) HQT.out hY (by have := HQL.out; simp; omega) wz hz; rw [HQM.out] at h; exact h), o.exc, o.pro⟩) ⟨Nat.le_trans HF.out.cat (by omega), Nat.le_trans HF.out.cls (by omega), Nat.le_trans HF.out.joi (by omega), Nat.le_trans HF.out.bid (by omega), Nat.le_trans HF.out.scr (by omega), Nat.le_trans HF.out.sta (by omega), Nat.le_trans HF.out.ign (by omega), Nat.le_trans HF.out.ext (by omega), Nat.le_trans HF.out.map (by omega), by simp only [List.length_append, List.length_cons, List.length_nil]; have := HF.out.dec; omega, Nat.le_trans HF.out.exc (by omega), Nat.le_trans HF.out.pro (by omega)⟩ (fun _ p n c e => row_cap ho3 e)⟩
  generalize (w3.setCell ⟨w.heap.size + 1 + 1, 9, none⟩ (.slice pv Nv cv)) = wx at HE ⊢
  clear ho1 hg1 hk1 hh1 hown ho3 hg3 hk3 hY c3 f3 ct
  generalize hrb : w.heap.size + 1 = rb at HE ⊢
  generalize hgg : w.heap.size + 1 + 1 = g at HE ⊢
  obtain ⟨⟨b0, b1, b2, b3, b4, b5, b6, b7, b8, b9, b10, b11⟩, T', he⟩ := HE.out
  have htv := he.tab wx (Keeps.refl _ _)
  obtain ⟨r0, m0, c0, hsl0⟩ : Slc b0 := htv.cat.slc
  subst hsl0
  obtain ⟨r1, m1, c1, hsl1⟩ : Slc b1 := htv.cls.slc
  subst hsl1
  obtain ⟨r2, m2, c2, hsl2⟩ : Slc b2 := htv.joi.slc
  subst hsl2
  obtain ⟨r3, m3, c3, hsl3⟩ : Slc b3 := htv.bid.slc
  subst hsl3
  obtain ⟨r4, m4, c4, hsl4⟩ : Slc b4 := htv.scr.slc
  subst hsl4
  obtain ⟨r5, m5, c5, hsl5⟩ : Slc b5 := htv.sta.slc
  subst hsl5
  obtain ⟨r6, m6, c6, hsl6⟩ : Slc b6 := htv.ign.slc
  subst hsl6
  obtain ⟨r7, m7, c7, hsl7⟩ : Slc b7 := htv.ext.slc
  subst hsl7
  obtain ⟨r8, m8, c8, hsl8⟩ : Slc b8 := htv.map.slc
  subst hsl8
  obtain ⟨r9, m9, c9, hsl9⟩ : Slc b9 := htv.dec.slc
  subst hsl9
  obtain ⟨r10, m10, c10, hsl10⟩ : Slc b10 := htv.exc.slc
  subst hsl10
  obtain ⟨r11, m11, c11, hsl11⟩ : Slc b11 := htv.pro.slc
  subst hsl11
  have HEE := Lib.hid he
  obtain ⟨⟨k0, k1, k2, k3, k4, k5⟩, ⟨k6, k7, k8, k9, k10, k11⟩⟩ := he.box.load
  simp only at k0 k1 k2 k3 k4 k5 k6 k7 k8 k9 k10 k11
  obtain ⟨s0, t0⟩ := he.res 0 (by omega)
  obtain ⟨s1, t1⟩ := he.res 1 (by omega)
  obtain ⟨s2, t2⟩ := he.res 2 (by omega)
  obtain ⟨s3, t3⟩ := he.res 3 (by omega)
  obtain ⟨s4, t4⟩ := he.res 4 (by omega)
  obtain ⟨s5, t5⟩ := he.res 5 (by omega)
  obtain ⟨s6, t6⟩ := he.res 6 (by omega)
  obtain ⟨s7, t7⟩ := he.res 7 (by omega)
  obtain ⟨s8, t8⟩ := he.res 8 (by omega)
  obtain ⟨s9, t9⟩ := he.res 9 (by omega)
  obtain ⟨s10, t10⟩ := he.res 10 (by omega)
  obtain ⟨s11, t11⟩ := he.res 11 (by omega)
  have HRB : Hid (w.heap.size ≤ rb) := by unfold Hid; omega
  clear HE he htv hrb hgg
  go_wp2
  obtain ⟨hbF, hkF⟩ := store12 wx rb (.slice r0 m0 c0) (.slice r1 m1 c1) (.slice r2 m2 c2) (.slice r3 m3 c3) (.slice r4 m4 c4) (.slice r5 m5 c5) (.slice r6 m6 c6) (.slice r7 m7 c7) (.slice r8 m8 c8) (.slice r9 m9 c9) (.slice r10 m10 c10) (.slice r11 m11 c11) HEE.out.res
  generalize (World.setCell (World.setCell (World.setCell (World.setCell (World.setCell (World.setCell (World.setCell (World.setCell (World.setCell (World.setCell (World.setCell (World.setCell (wx) ⟨rb, 0, none⟩ (.slice r0 m0 c0)) ⟨rb, 1, none⟩ (.slice r1 m1 c1)) ⟨rb, 2, none⟩ (.slice r2 m2 c2)) ⟨rb, 3, none⟩ (.slice r3 m3 c3)) ⟨rb, 4, none⟩ (.slice r4 m4 c4)) ⟨rb, 5, none⟩ (.slice r5 m5 c5)) ⟨rb, 6, none⟩ (.slice r6 m6 c6)) ⟨rb, 7, none⟩ (.slice r7 m7 c7)) ⟨rb, 8, none⟩ (.slice r8 m8 c8)) ⟨rb, 9, none⟩ (.slice r9 m9 c9)) ⟨rb, 10, none⟩ (.slice r10 m10 c10)) ⟨rb, 11, none⟩ (.slice r11 m11 c11)) = WF at hbF hkF ⊢
  obtain ⟨⟨Q0, Q1, Q2, Q3, Q4, Q5⟩, ⟨Q6, Q7, Q8, Q9, Q10, Q11⟩⟩ := hbF.load
  simp only at Q0 Q1 Q2 Q3 Q4 Q5 Q6 Q7 Q8 Q9 Q10 Q11
  refine bodyPost_ret (v := .agg #[.slice r0 m0 c0, .slice r1 m1 c1, .slice r2 m2 c2, .slice r3 m3 c3, .slice r4 m4 c4, .slice r5 m5 c5, .slice r6 m6 c6, .slice r7 m7 c7, .slice r8 m8 c8, .slice r9 m9 c9, .slice r10 m10 c10, .slice r11 m11 c11]) (by simp [results, Tryz.results10, go_sem, Q0, Q1, Q2, Q3, Q4, Q5, Q6, Q7, Q8, Q9, Q10, Q11]) rfl ?_
  exact ⟨⟨.slice r0 m0 c0, .slice r1 m1 c1, .slice r2 m2 c2, .slice r3 m3 c3, .slice r4 m4 c4, .slice r5 m5 c5, .slice r6 m6 c6, .slice r7 m7 c7, .slice r8 m8 c8, .slice r9 m9 c9, .slice r10 m10 c10, .slice r11 m11 c11⟩, T', rfl, HEE.out.tab WF hkF, HEE.out.few, HEE.out.cap, HEE.out.bel.trans (hkF.below HEE.out.bel.size (fun b _ e => by have := HRB.out; omega))⟩

set_option maxRecDepth 100000 in
set_option maxHeartbeats 4000000 in
theorem other_11b (x : TV) (T : Tb) (n : Nat) (how at' v : Int) (w : World) (hx : TabV w x T) (hf : Few n T) (hn : n ≤ 1000) (hk : Hid (pickS how 12 = 11)) (hk2 : Hid (pickS v 2 = 1)) :
    Calls Tryz.prog 10 #[x.agg, .int .i64 how, .int .i64 at', .int .i64 v] w (OtherPost x n w) := by
  obtain ⟨a0, a1, a2, a3, a4, a5, a6, a7, a8, a9, a10, a11⟩ := x
  obtain ⟨p0, n0, q0, hsl0⟩ : Slc a0 := hx.cat.slc
  subst hsl0
  obtain ⟨p1, n1, q1, hsl1⟩ : Slc a1 := hx.cls.slc
  subst hsl1
  obtain ⟨p2, n2, q2, hsl2⟩ : Slc a2 := hx.joi.slc
  subst hsl2
  obtain ⟨p3, n3, q3, hsl3⟩ : Slc a3 := hx.bid.slc
  subst hsl3
  obtain ⟨p4, n4, q4, hsl4⟩ : Slc a4 := hx.scr.slc
  subst hsl4
  obtain ⟨p5, n5, q5, hsl5⟩ : Slc a5 := hx.sta.slc
  subst hsl5
  obtain ⟨p6, n6, q6, hsl6⟩ : Slc a6 := hx.ign.slc
  subst hsl6
  obtain ⟨p7, n7, q7, hsl7⟩ : Slc a7 := hx.ext.slc
  subst hsl7
  obtain ⟨p8, n8, q8, hsl8⟩ : Slc a8 := hx.map.slc
  subst hsl8
  obtain ⟨p9, n9, q9, hsl9⟩ : Slc a9 := hx.dec.slc
  subst hsl9
  obtain ⟨p10, n10, q10, hsl10⟩ : Slc a10 := hx.exc.slc
  subst hsl10
  obtain ⟨p11, n11, q11, hsl11⟩ : Slc a11 := hx.pro.slc
  subst hsl11
  have hC := OCase.new w ⟨.slice p0 n0 q0, .slice p1 n1 q1, .slice p2 n2 q2, .slice p3 n3 q3, .slice p4 n4 q4, .slice p5 n5 q5, .slice p6 n6 q6, .slice p7 n7 q7, .slice p8 n8 q8, .slice p9 n9 q9, .slice p10 n10 q10, .slice p11 n11 q11⟩ 29
  obtain ⟨W, hW⟩ : ∃ W, ((w.alloc (.cells #[.slice p0 n0 q0, .slice p1 n1 q1, .slice p2 n2 q2, .slice p3 n3 q3, .slice p4 n4 q4, .slice p5 n5 q5, .slice p6 n6 q6, .slice p7 n7 q7, .slice p8 n8 q8, .slice p9 n9 q9, .slice p10 n10 q10, .slice p11 n11 q11] 29)).alloc (.cells nilC 29)).alloc (.cells #[.slice p0 n0 q0, .slice p1 n1 q1, .slice p2 n2 q2, .slice p3 n3 q3, .slice p4 n4 q4, .slice p5 n5 q5, .slice p6 n6 q6, .slice p7 n7 q7, .slice p8 n8 q8, .slice p9 n9 q9, .slice p10 n10 q10, .slice p11 n11 q11] 29) = W := ⟨_, rfl⟩
  simp only [tabCells] at hC
  rw [hW] at hC
  have HC := Lib.hid hC
  have HX := Lib.hid hx
  have HF := Lib.hid hf
  obtain ⟨pp, cc, he9, hin9, hl9⟩ := hx.dec
  injection he9 with e1 e2 e3
  subst e1
  subst e3
  obtain ⟨Q, hQm, hQi, hQt⟩ := mq_of hin9
  have hQl : Q.length = n9 := by rw [e2, ← hQm, List.length_map]
  have hle : n9 ≤ n := by rw [e2]; exact hf.dec
  have HQM := Lib.hid hQm
  have HQI := Lib.hid (hQi.below hC.bel)
  have HQT := Lib.hid hQt
  have HQL := Lib.hid hQl
  have ct : W.cell? ⟨w.heap.size, 9, none⟩ = some (.slice p9 n9 q9) := hC.cellT (by omega)
  clear hin9 hl9 hQm hQi hQt e2
  go_enter Tryz.func10, Tryz.ntmps10
  go_wp2_with fail
  refine (pick_at how 12 11 _ (by omega) (by omega) hk).mono ?_
  rintro e wz ⟨rfl, rfl⟩
  clear hW hC hx hf hk
  go_upto_region 28 with (first
    | (at_builtin; refine wpList_append_maps (.const (.slice none 0 0)) (.tmp 14) rfl rfl W.heap.size (.slice none 0 0) [] rfl (RowQ.nil _ _) p9 n9 q9 Q HQL.out rfl HQI.out (by have := HQL.out; simp; omega) (Nat.le_refl _) ?_; intro v1 w1 ho1 hg1; have hk1 : Keeps W w1 (fun _ => False) := keeps_g hg1; have hh1 := hk1.size)
    | (go_at_call 9; (with_reducible refine (pick_at v 2 1 _ (by omega) (by omega) hk2).mono ?_); rintro e wn ⟨rfl, rfl⟩)
    | (at_builtin; refine wpList_append_map2 (.tmp 15) (.tmp 23) rfl rfl W.heap.size v1 ([] ++ Q) rfl (World.ownsRow.alloc (World.ownsRow.alloc ho1 _) _) 131072 [131073] _ 131073 [131072] _ _ _ rfl (by simp) rfl rfl (by have := HQL.out; simp; omega) (Nat.le_trans hh1 (by simp <;> omega)) ?_; intro v3 w3 ho3 hg3; have hk3 : Keeps W w3 (fun _ => False) := keeps_two hk1 ho1 (ka3 w1 _ _ _) hg3; have hcf : w3.cell? ⟨w.heap.size + 1 + 1, 9, none⟩ = some (.slice p9 n9 q9) ∧ w3.frozen? ⟨w.heap.size + 1 + 1, 9, none⟩ = false := HC.out.cellG hk3 (by omega); obtain ⟨c3, f3⟩ := hcf; obtain ⟨pv, cv, Nv, rfl⟩ : ∃ p c N, v3 = .slice p N c := (by obtain ⟨p, c, e⟩ := RowQ.slice ho3; exact ⟨p, c, _, e⟩)))
  have hown : ∀ k, v1.ownBlock = some k → k < w1.heap.size := fun k hk => (World.ownsRow.lt ho1 k hk).2
  rw [List.nil_append] at ho3
  have hY : ∀ q ∈ [((131072, [131073]), .slice (some ⟨w1.heap.size, 0, none⟩) 1 1), ((131073, [131072]), .slice (some ⟨w1.heap.size + 1, 1, none⟩) 1 1)], NewTo W w3 q := by
    intro q hq
    simp only [List.mem_cons, List.not_mem_nil, or_false] at hq
    rcases hq with rfl | rfl
    · exact new_to (W := W) (b := w1.heap.size) (off := 0) (((ints_cells w1 #[.int .i64 131073] 3 0 [131073] rfl (by intro k hk; have hk2 : k = 0 := (by simp at hk; omega); rcases hk2 with rfl; rfl)).alloc _).alloc _) (by simp) hg3 hown hh1 rfl
    · exact new_to (W := W) (b := w1.heap.size + 1) (off := 1) ((ints_cells (w1.alloc (.cells #[.int .i64 131073] 3)) #[.int .i64 98, .int .i64 131072] 3 1 [131072] (by simp) (by intro k hk; have hk2 : k = 0 := (by simp at hk; omega); rcases hk2 with rfl <;> rfl)).alloc _) (by simp) hg3 (fun k hk => Nat.lt_succ_of_lt (hown k hk)) (Nat.le_succ_of_le hh1) rfl
  have HE : Hid (∃ x' T', OEnd w (w.heap.size + 1 + 1) (w.heap.size + 1) n ⟨.slice p0 n0 q0, .slice p1 n1 q1, .slice p2 n2 q2, .slice p3 n3 q3, .slice p4 n4 q4, .slice p5 n5 q5, .slice p6 n6 q6, .slice p7 n7 q7, .slice p8 n8 q8, .slice p9 n9 q9, .slice p10 n10 q10, .slice p11 n11 q11⟩ (w3.setCell ⟨w.heap.size + 1 + 1, 9, none⟩ (.slice pv Nv cv)) x' T') :=
    ⟨_, { T with dec := T.dec ++ [(131072, [131073]), (131073, [131072])] }, HC.out.fin (i := 9) (by omega) hk3 (fun wz hz => by
      have o := HC.out.oldT HX.out hk3 wz hz
      exact ⟨o.cat, o.cls, o.joi, o.bid, o.scr, o.sta, o.ign, o.ext, o.map, (by have h := HC.out.maps hk3 ho3 (Nat.le_refl _) HQT.out hY (by have := HQL.out; simp; omega) wz hz; rw [HQM.out] at h; exact h), o.exc, o.pro⟩) ⟨Nat.le_trans HF.out.cat (by omega), Nat.le_trans HF.out.cls (by omega), Nat.le_trans HF.out.joi (by omega), Nat.le_trans HF.out.bid (by omega), Nat.le_trans HF.out.scr (by omega), Nat.le_trans HF.out.sta (by omega), Nat.le_trans HF.out.ign (by omega), Nat.le_trans HF.out.ext (by omega), Nat.le_trans HF.out.map (by omega), by simp only [List.length_append, List.length_cons, List.length_nil]; have := HF.out.dec; omega, Nat.le_trans HF.out.exc (by omega), Nat.le_trans HF.out.pro (by omega)⟩ (fun _ p n c e => row_cap ho3 e)⟩
  generalize (w3.setCell ⟨w.heap.size + 1 + 1, 9, none⟩ (.slice pv Nv cv)) = wx at HE ⊢
  clear ho1 hg1 hk1 hh1 hown ho3 hg3 hk3 hY c3 f3 ct
  generalize hrb : w.heap.size + 1 = rb at HE ⊢
  generalize hgg : w.heap.size + 1 + 1 = g at HE ⊢
  obtain ⟨⟨b0, b1, b2, b3, b4, b5, b6, b7, b8, b9, b10, b11⟩, T', he⟩ := HE.out
  have htv := he.tab wx (Keeps.refl _ _)
  obtain ⟨r0, m0, c0, hsl0⟩ : Slc b0 := htv.cat.slc
  subst hsl0
  obtain ⟨r1, m1, c1, hsl1⟩ : Slc b1 := htv.cls.slc
  subst hsl1
  obtain ⟨r2, m2, c2, hsl2⟩ : Slc b2 := htv.joi.slc
  subst hsl2
  obtain ⟨r3, m3, c3, hsl3⟩ : Slc b3 := htv.bid.slc
  subst hsl3
  obtain ⟨r4, m4, c4, hsl4⟩ : Slc b4 := htv.scr.slc
  subst hsl4
  obtain ⟨r5, m5, c5, hsl5⟩ : Slc b5 := htv.sta.slc
  subst hsl5
  obtain ⟨r6, m6, c6, hsl6⟩ : Slc b6 := htv.ign.slc
  subst hsl6
  obtain ⟨r7, m7, c7, hsl7⟩ : Slc b7 := htv.ext.slc
  subst hsl7
  obtain ⟨r8, m8, c8, hsl8⟩ : Slc b8 := htv.map.slc
  subst hsl8
  obtain ⟨r9, m9, c9, hsl9⟩ : Slc b9 := htv.dec.slc
  subst hsl9
  obtain ⟨r10, m10, c10, hsl10⟩ : Slc b10 := htv.exc.slc
  subst hsl10
  obtain ⟨r11, m11, c11, hsl11⟩ : Slc b11 := htv.pro.slc
  subst hsl11
  have HEE := Lib.hid he
  obtain ⟨⟨k0, k1, k2, k3, k4, k5⟩, ⟨k6, k7, k8, k9, k10, k11⟩⟩ := he.box.load
  simp only at k0 k1 k2 k3 k4 k5 k6 k7 k8 k9 k10 k11
  obtain ⟨s0, t0⟩ := he.res 0 (by omega)
  obtain ⟨s1, t1⟩ := he.res 1 (by omega)
  obtain ⟨s2, t2⟩ := he.res 2 (by omega)
  obtain ⟨s3, t3⟩ := he.res 3 (by omega)
  obtain ⟨s4, t4⟩ := he.res 4 (by omega)
  obtain ⟨s5, t5⟩ := he.res 5 (by omega)
  obtain ⟨s6, t6⟩ := he.res 6 (by omega)
  obtain ⟨s7, t7⟩ := he.res 7 (by omega)
  obtain ⟨s8, t8⟩ := he.res 8 (by omega)
  obtain ⟨s9, t9⟩ := he.res 9 (by omega)
  obtain ⟨s10, t10⟩ := he.res 10 (by omega)
  obtain ⟨s11, t11⟩ := he.res 11 (by omega)
  have HRB : Hid (w.heap.size ≤ rb) := by unfold Hid; omega
  clear HE he htv hrb hgg
  go_wp2
  obtain ⟨hbF, hkF⟩ := store12 wx rb (.slice r0 m0 c0) (.slice r1 m1 c1) (.slice r2 m2 c2) (.slice r3 m3 c3) (.slice r4 m4 c4) (.slice r5 m5 c5) (.slice r6 m6 c6) (.slice r7 m7 c7) (.slice r8 m8 c8) (.slice r9 m9 c9) (.slice r10 m10 c10) (.slice r11 m11 c11) HEE.out.res
  generalize (World.setCell (World.setCell (World.setCell (World.setCell (World.setCell (World.setCell (World.setCell (World.setCell (World.setCell (World.setCell (World.setCell (World.setCell (wx) ⟨rb, 0, none⟩ (.slice r0 m0 c0)) ⟨rb, 1, none⟩ (.slice r1 m1 c1)) ⟨rb, 2, none⟩ (.slice r2 m2 c2)) ⟨rb, 3, none⟩ (.slice r3 m3 c3)) ⟨rb, 4, none⟩ (.slice r4 m4 c4)) ⟨rb, 5, none⟩ (.slice r5 m5 c5)) ⟨rb, 6, none⟩ (.slice r6 m6 c6)) ⟨rb, 7, none⟩ (.slice r7 m7 c7)) ⟨rb, 8, none⟩ (.slice r8 m8 c8)) ⟨rb, 9, none⟩ (.slice r9 m9 c9)) ⟨rb, 10, none⟩ (.slice r10 m10 c10)) ⟨rb, 11, none⟩ (.slice r11 m11 c11)) = WF at hbF hkF ⊢
  obtain ⟨⟨Q0, Q1, Q2, Q3, Q4, Q5⟩, ⟨Q6, Q7, Q8, Q9, Q10, Q11⟩⟩ := hbF.load
  simp only at Q0 Q1 Q2 Q3 Q4 Q5 Q6 Q7 Q8 Q9 Q10 Q11
  refine bodyPost_ret (v := .agg #[.slice r0 m0 c0, .slice r1 m1 c1, .slice r2 m2 c2, .slice r3 m3 c3, .slice r4 m4 c4, .slice r5 m5 c5, .slice r6 m6 c6, .slice r7 m7 c7, .slice r8 m8 c8, .slice r9 m9 c9, .slice r10 m10 c10, .slice r11 m11 c11]) (by simp [results, Tryz.results10, go_sem, Q0, Q1, Q2, Q3, Q4, Q5, Q6, Q7, Q8, Q9, Q10, Q11]) rfl ?_
  exact ⟨⟨.slice r0 m0 c0, .slice r1 m1 c1, .slice r2 m2 c2, .slice r3 m3 c3, .slice r4 m4 c4, .slice r5 m5 c5, .slice r6 m6 c6, .slice r7 m7 c7, .slice r8 m8 c8, .slice r9 m9 c9, .slice r10 m10 c10, .slice r11 m11 c11⟩, T', rfl, HEE.out.tab WF hkF, HEE.out.few, HEE.out.cap, HEE.out.bel.trans (hkF.below HEE.out.bel.size (fun b _ e => by have := HRB.out; omega))⟩

end Go.Proofs.YtnnhcgflmhjakaaGreatDoor
