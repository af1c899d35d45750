/- keep.Other: the cases K3a, K3b, K7, K11a, K11b (genO.py). ke -/
import Derived.Test.YtopaojjodkoidaaGreatDoorSSmPkH
import Derived.StillTailTactics
set_option linter.unusedSimpArgs false
set_option linter.unusedVariables false
namespace Go.Proofs.YtopaojjodkoidaaGreatDoor
open Go.RowKit
set_option maxRecDepth 100000 in
set_option maxHeartbeats 4000000 in
theorem other_3a (x : TV) (T : Tb) (n : Nat) (how at' v : Int) (w : World) (hx : TabV w x T) (hf : Few n T) (hn : n ≤ 1000) (hk : Hid (pickS how 12 = 3)) (hk2 : Hid (pickS at' 2 = 0)) :
 Calls Tryz.prog 17 #[x.agg, .int .i64 how, .int .i64 at', .int .i64 v] w (OtherPost x n w) := by
 obtain ⟨a0, a1, a2, a3, a4, a5, a6, a7, a8, a9, a10, a11⟩ := x
 obtain ⟨p0, n0, q0, hsl0⟩ : Slc a0 := hx.cat.slc
 subst hsl0
 obtain ⟨p1, n1, q1, hsl1⟩ : Slc a1 := hx.cls.slc
 subst hsl1
 obtain ⟨p2, n2, q2, hsl2⟩ : Slc a2 := hx.joi.slc
 subst hsl2
 obtain ⟨p3, n3, q3, hsl3⟩ : Slc a3 := hx.bid.slc
 subst hsl3
 obtain ⟨p4, n4, q4, hsl4⟩ : Slc a4 := hx.scr.slc
 subst hsl4
 obtain ⟨p5, n5, q5, hsl5⟩ : Slc a5 := hx.sta.slc
 subst hsl5
 obtain ⟨p6, n6, q6, hsl6⟩ : Slc a6 := hx.ign.slc
 subst hsl6
 obtain ⟨p7, n7, q7, hsl7⟩ : Slc a7 := hx.ext.slc
 subst hsl7
 obtain ⟨p8, n8, q8, hsl8⟩ : Slc a8 := hx.map.slc
 subst hsl8
 obtain ⟨p9, n9, q9, hsl9⟩ : Slc a9 := hx.dec.slc
 subst hsl9
 obtain ⟨p10, n10, q10, hsl10⟩ : Slc a10 := hx.exc.slc
 subst hsl10
 obtain ⟨p11, n11, q11, hsl11⟩ : Slc a11 := hx.pro.slc
 subst hsl11
 have hC := OCase.new w ⟨.slice p0 n0 q0, .slice p1 n1 q1, .slice p2 n2 q2, .slice p3 n3 q3, .slice p4 n4 q4, .slice p5 n5 q5, .slice p6 n6 q6, .slice p7 n7 q7, .slice p8 n8 q8, .slice p9 n9 q9, .slice p10 n10 q10, .slice p11 n11 q11⟩ 26
 obtain ⟨W, hW⟩ : ∃ W, ((w.alloc (.cells #[.slice p0 n0 q0, .slice p1 n1 q1, .slice p2 n2 q2, .slice p3 n3 q3, .slice p4 n4 q4, .slice p5 n5 q5, .slice p6 n6 q6, .slice p7 n7 q7, .slice p8 n8 q8, .slice p9 n9 q9, .slice p10 n10 q10, .slice p11 n11 q11] 26)).alloc (.cells nilC 26)).alloc (.cells #[.slice p0 n0 q0, .slice p1 n1 q1, .slice p2 n2 q2, .slice p3 n3 q3, .slice p4 n4 q4, .slice p5 n5 q5, .slice p6 n6 q6, .slice p7 n7 q7, .slice p8 n8 q8, .slice p9 n9 q9, .slice p10 n10 q10, .slice p11 n11 q11] 26) = W := ⟨_, rfl⟩
 simp only [tabCells] at hC
 rw [hW] at hC
 have HC := Lib.hid hC
 have HX := Lib.hid hx
 have HF := Lib.hid hf
 obtain ⟨pp, cc, he9, hin9, hl9⟩ := hx.dec
 injection he9 with e1 e2 e3
 subst e1
 subst e3
 obtain ⟨Q, hQm, hQi, hQt⟩ := mq_of hin9
 have hQl : Q.length = n9 := by rw [e2, ← hQm, List.length_map]
 have hle : n9 ≤ n := by rw [e2]; exact hf.dec
 have HQM := Lib.hid hQm
 have HQI := Lib.hid (hQi.below hC.bel)
 have HQT := Lib.hid hQt
 have HQL := Lib.hid hQl
 have ct : W.cell? ⟨w.heap.size, 9, none⟩ = some (.slice p9 n9 q9) := hC.cellT (by omega)
 clear hin9 hl9 hQm hQi hQt e2
 obtain ⟨z1, HZ1, y0, y1⟩ := pick_nm v 6 (by omega)
 go_enter Tryz.func17, Tryz.ntmps17
 go_wp2_with fail
 refine (pick_at how 12 3 _ (by omega) (by omega) hk).mono ?_
 rintro e wz ⟨rfl, rfl⟩
 clear hW hC hx hf hk
 go_upto_region 28 with (first
  | (at_builtin; refine wpList_append_maps (.const (.slice none 0 0)) (.tmp 68) rfl rfl W.heap.size (.slice none 0 0) [] rfl (RowQ.nil _ _) p9 n9 q9 Q HQL.out rfl HQI.out (by have := HQL.out; simp; omega) (Nat.le_refl _) ?_; intro v1 w1 ho1 hg1; have hk1 : Keeps W w1 (fun _ => False) := keeps_g hg1; have hh1 := hk1.size)
  | (go_at_call 22; (with_reducible refine (pick_at v 6 z1 _ (by omega) (by omega) HZ1).mono ?_); rintro e wn ⟨rfl, rfl⟩)
  | (go_at_call 22; (with_reducible refine (pick_at at' 2 0 _ (by omega) (by omega) hk2).mono ?_); rintro e wn ⟨rfl, rfl⟩)
  | (at_builtin; refine wpList_append_map1 (.tmp 69) (.tmp 79) rfl rfl W.heap.size v1 ([] ++ Q) rfl (World.ownsRow.alloc ho1 _) 131072 [7680 + z1] _ _ _ rfl (by simp) rfl (by have := HQL.out; simp; omega) (Nat.le_trans hh1 (by simp <;> omega)) ?_; intro v3 w3 ho3 hg3; have hk3 : Keeps W w3 (fun _ => False) := keeps_two hk1 ho1 (ka2 w1 _ _) hg3; have hcf : w3.cell? ⟨w.heap.size + 1 + 1, 9, none⟩ = some (.slice p9 n9 q9) ∧ w3.frozen? ⟨w.heap.size + 1 + 1, 9, none⟩ = false := HC.out.cellG hk3 (by omega); obtain ⟨c3, f3⟩ := hcf; obtain ⟨pv, cv, Nv, rfl⟩ : ∃ p c N, v3 = .slice p N c := (by obtain ⟨p, c, e⟩ := RowQ.slice ho3; exact ⟨p, c, _, e⟩)))
 have hown : ∀ k, v1.ownBlock = some k → k < w1.heap.size := fun k hk => (World.ownsRow.lt ho1 k hk).2
 rw [List.nil_append] at ho3
 have hY : ∀ q ∈ [((131072, [7680 + z1]), .slice (some ⟨w1.heap.size, 0, none⟩) 1 2)], NewTo W w3 q := by
  intro q hq
  simp only [List.mem_cons, List.not_mem_nil, or_false] at hq
  subst hq
  exact new_to (W := W) (b := w1.heap.size) (off := 0) ((ints_cells w1 #[.int .i64 (7680 + z1), .int .i64 769] 3 0 [7680 + z1] rfl (by intro k hk; have hk2 : k = 0 := (by simp at hk; omega); rcases hk2 with rfl <;> rfl)).alloc _) (by simp) hg3 hown hh1 rfl
 have HE : Hid (∃ x' T', OEnd w (w.heap.size + 1 + 1) (w.heap.size + 1) n ⟨.slice p0 n0 q0, .slice p1 n1 q1, .slice p2 n2 q2, .slice p3 n3 q3, .slice p4 n4 q4, .slice p5 n5 q5, .slice p6 n6 q6, .slice p7 n7 q7, .slice p8 n8 q8, .slice p9 n9 q9, .slice p10 n10 q10, .slice p11 n11 q11⟩ (w3.setCell ⟨w.heap.size + 1 + 1, 9, none⟩ (.slice pv Nv cv)) x' T') :=
  ⟨_, { T with dec := T.dec ++ [(131072, [7680 + z1])] }, HC.out.fin (i := 9) (by omega) hk3 (fun wz hz => by
   have o := HC.out.oldT HX.out hk3 wz hz
   exact ⟨o.cat, o.cls, o.joi, o.bid, o.scr, o.sta, o.ign, o.ext, o.map, (by have h := HC.out.maps hk3 ho3 (Nat.le_refl _) HQT.out hY (by have := HQL.out; simp; omega) wz hz; rw [HQM.out] at h; exact h), o.exc, o.pro⟩) ⟨Nat.le_trans HF.out.cat (by omega), Nat.le_trans HF.out.cls (by omega), Nat.le_trans HF.out.joi (by omega), Nat.le_trans HF.out.bid (by omega), Nat.le_trans HF.out.scr (by omega), Nat.le_trans HF.out.sta (by omega), Nat.le_trans HF.out.ign (by omega), Nat.le_trans HF.out.ext (by omega), Nat.le_trans HF.out.map (by omega), by simp only [List.length_append, List.length_cons, List.length_nil]; have := HF.out.dec; omega, Nat.le_trans HF.out.exc (by omega), Nat.le_trans HF.out.pro (by omega)⟩ (fun _ p n c e => row_cap ho3 e)⟩
 generalize (w3.setCell ⟨w.heap.size + 1 + 1, 9, none⟩ (.slice pv Nv cv)) = wx at HE ⊢
 clear ho1 hg1 hk1 hh1 hown ho3 hg3 hk3 hY c3 f3 ct
 generalize hrb : w.heap.size + 1 = rb at HE ⊢
 generalize hgg : w.heap.size + 1 + 1 = g at HE ⊢
 obtain ⟨⟨b0, b1, b2, b3, b4, b5, b6, b7, b8, b9, b10, b11⟩, T', he⟩ := HE.out
 have htv := he.tab wx (Keeps.refl _ _)
 obtain ⟨r0, m0, c0, hsl0⟩ : Slc b0 := htv.cat.slc
 subst hsl0
 obtain ⟨r1, m1, c1, hsl1⟩ : Slc b1 := htv.cls.slc
 subst hsl1
 obtain ⟨r2, m2, c2, hsl2⟩ : Slc b2 := htv.joi.slc
 subst hsl2
 obtain ⟨r3, m3, c3, hsl3⟩ : Slc b3 := htv.bid.slc
 subst hsl3
 obtain ⟨r4, m4, c4, hsl4⟩ : Slc b4 := htv.scr.slc
 subst hsl4
 obtain ⟨r5, m5, c5, hsl5⟩ : Slc b5 := htv.sta.slc
 subst hsl5
 obtain ⟨r6, m6, c6, hsl6⟩ : Slc b6 := htv.ign.slc
 subst hsl6
 obtain ⟨r7, m7, c7, hsl7⟩ : Slc b7 := htv.ext.slc
 subst hsl7
 obtain ⟨r8, m8, c8, hsl8⟩ : Slc b8 := htv.map.slc
 subst hsl8
 obtain ⟨r9, m9, c9, hsl9⟩ : Slc b9 := htv.dec.slc
 subst hsl9
 obtain ⟨r10, m10, c10, hsl10⟩ : Slc b10 := htv.exc.slc
 subst hsl10
 obtain ⟨r11, m11, c11, hsl11⟩ : Slc b11 := htv.pro.slc
 subst hsl11
 have HEE := Lib.hid he
 obtain ⟨⟨k0, k1, k2, k3, k4, k5⟩, ⟨k6, k7, k8, k9, k10, k11⟩⟩ := he.box.load
 simp only at k0 k1 k2 k3 k4 k5 k6 k7 k8 k9 k10 k11
 obtain ⟨s0, t0⟩ := he.res 0 (by omega)
 obtain ⟨s1, t1⟩ := he.res 1 (by omega)
 obtain ⟨s2, t2⟩ := he.res 2 (by omega)
 obtain ⟨s3, t3⟩ := he.res 3 (by omega)
 obtain ⟨s4, t4⟩ := he.res 4 (by omega)
 obtain ⟨s5, t5⟩ := he.res 5 (by omega)
 obtain ⟨s6, t6⟩ := he.res 6 (by omega)
 obtain ⟨s7, t7⟩ := he.res 7 (by omega)
 obtain ⟨s8, t8⟩ := he.res 8 (by omega)
 obtain ⟨s9, t9⟩ := he.res 9 (by omega)
 obtain ⟨s10, t10⟩ := he.res 10 (by omega)
 obtain ⟨s11, t11⟩ := he.res 11 (by omega)
 have HRB : Hid (w.heap.size ≤ rb) := by unfold Hid; omega
 clear HE he htv hrb hgg
 go_wp2
 obtain ⟨hbF, hkF⟩ := store12 wx rb (.slice r0 m0 c0) (.slice r1 m1 c1) (.slice r2 m2 c2) (.slice r3 m3 c3) (.slice r4 m4 c4) (.slice r5 m5 c5) (.slice r6 m6 c6) (.slice r7 m7 c7) (.slice r8 m8 c8) (.slice r9 m9 c9) (.slice r10 m10 c10) (.slice r11 m11 c11) HEE.out.res
 generalize (World.setCell (World.setCell (World.setCell (World.setCell (World.setCell (World.setCell (World.setCell (World.setCell (World.setCell (World.setCell (World.setCell (World.setCell (wx) ⟨rb, 0, none⟩ (.slice r0 m0 c0)) ⟨rb, 1, none⟩ (.slice r1 m1 c1)) ⟨rb, 2, none⟩ (.slice r2 m2 c2)) ⟨rb, 3, none⟩ (.slice r3 m3 c3)) ⟨rb, 4, none⟩ (.slice r4 m4 c4)) ⟨rb, 5, none⟩ (.slice r5 m5 c5)) ⟨rb, 6, none⟩ (.slice r6 m6 c6)) ⟨rb, 7, none⟩ (.slice r7 m7 c7)) ⟨rb, 8, none⟩ (.slice r8 m8 c8)) ⟨rb, 9, none⟩ (.slice r9 m9 c9)) ⟨rb, 10, none⟩ (.slice r10 m10 c10)) ⟨rb, 11, none⟩ (.slice r11 m11 c11)) = WF at hbF hkF ⊢
 obtain ⟨⟨Q0, Q1, Q2, Q3, Q4, Q5⟩, ⟨Q6, Q7, Q8, Q9, Q10, Q11⟩⟩ := hbF.load
 simp only at Q0 Q1 Q2 Q3 Q4 Q5 Q6 Q7 Q8 Q9 Q10 Q11
 refine bodyPost_ret (v := .agg #[.slice r0 m0 c0, .slice r1 m1 c1, .slice r2 m2 c2, .slice r3 m3 c3, .slice r4 m4 c4, .slice r5 m5 c5, .slice r6 m6 c6, .slice r7 m7 c7, .slice r8 m8 c8, .slice r9 m9 c9, .slice r10 m10 c10, .slice r11 m11 c11]) (by simp [results, Tryz.results17, go_sem, Q0, Q1, Q2, Q3, Q4, Q5, Q6, Q7, Q8, Q9, Q10, Q11]) rfl ?_
 exact ⟨⟨.slice r0 m0 c0, .slice r1 m1 c1, .slice r2 m2 c2, .slice r3 m3 c3, .slice r4 m4 c4, .slice r5 m5 c5, .slice r6 m6 c6, .slice r7 m7 c7, .slice r8 m8 c8, .slice r9 m9 c9, .slice r10 m10 c10, .slice r11 m11 c11⟩, T', rfl, HEE.out.tab WF hkF, HEE.out.few, HEE.out.cap, HEE.out.bel.trans (hkF.below HEE.out.bel.size (fun b _ e => by have := HRB.out; omega))⟩
set_option maxRecDepth 100000 in
set_option maxHeartbeats 4000000 in
theorem other_3b (x : TV) (T : Tb) (n : Nat) (how at' v : Int) (w : World) (hx : TabV w x T) (hf : Few n T) (hn : n ≤ 1000) (hk : Hid (pickS how 12 = 3)) (hk2 : Hid (pickS at' 2 = 1)) :
 Calls Tryz.prog 17 #[x.agg, .int .i64 how, .int .i64 at', .int .i64 v] w (OtherPost x n w) := by
 obtain ⟨a0, a1, a2, a3, a4, a5, a6, a7, a8, a9, a10, a11⟩ := x
 obtain ⟨p0, n0, q0, hsl0⟩ : Slc a0 := hx.cat.slc
 subst hsl0
 obtain ⟨p1, n1, q1, hsl1⟩ : Slc a1 := hx.cls.slc
 subst hsl1
 obtain ⟨p2, n2, q2, hsl2⟩ : Slc a2 := hx.joi.slc
 subst hsl2
 obtain ⟨p3, n3, q3, hsl3⟩ : Slc a3 := hx.bid.slc
 subst hsl3
 obtain ⟨p4, n4, q4, hsl4⟩ : Slc a4 := hx.scr.slc
 subst hsl4
 obtain ⟨p5, n5, q5, hsl5⟩ : Slc a5 := hx.sta.slc
 subst hsl5
 obtain ⟨p6, n6, q6, hsl6⟩ : Slc a6 := hx.ign.slc
 subst hsl6
 obtain ⟨p7, n7, q7, hsl7⟩ : Slc a7 := hx.ext.slc
 subst hsl7
 obtain ⟨p8, n8, q8, hsl8⟩ : Slc a8 := hx.map.slc
 subst hsl8
 obtain ⟨p9, n9, q9, hsl9⟩ : Slc a9 := hx.dec.slc
 subst hsl9
 obtain ⟨p10, n10, q10, hsl10⟩ : Slc a10 := hx.exc.slc
 subst hsl10
 obtain ⟨p11, n11, q11, hsl11⟩ : Slc a11 := hx.pro.slc
 subst hsl11
 have hC := OCase.new w ⟨.slice p0 n0 q0, .slice p1 n1 q1, .slice p2 n2 q2, .slice p3 n3 q3, .slice p4 n4 q4, .slice p5 n5 q5, .slice p6 n6 q6, .slice p7 n7 q7, .slice p8 n8 q8, .slice p9 n9 q9, .slice p10 n10 q10, .slice p11 n11 q11⟩ 26
 obtain ⟨W, hW⟩ : ∃ W, ((w.alloc (.cells #[.slice p0 n0 q0, .slice p1 n1 q1, .slice p2 n2 q2, .slice p3 n3 q3, .slice p4 n4 q4, .slice p5 n5 q5, .slice p6 n6 q6, .slice p7 n7 q7, .slice p8 n8 q8, .slice p9 n9 q9, .slice p10 n10 q10, .slice p11 n11 q11] 26)).alloc (.cells nilC 26)).alloc (.cells #[.slice p0 n0 q0, .slice p1 n1 q1, .slice p2 n2 q2, .slice p3 n3 q3, .slice p4 n4 q4, .slice p5 n5 q5, .slice p6 n6 q6, .slice p7 n7 q7, .slice p8 n8 q8, .slice p9 n9 q9, .slice p10 n10 q10, .slice p11 n11 q11] 26) = W := ⟨_, rfl⟩
 simp only [tabCells] at hC
 rw [hW] at hC
 have HC := Lib.hid hC
 have HX := Lib.hid hx
 have HF := Lib.hid hf
 obtain ⟨pp, cc, he9, hin9, hl9⟩ := hx.dec
 injection he9 with e1 e2 e3
 subst e1
 subst e3
 obtain ⟨Q, hQm, hQi, hQt⟩ := mq_of hin9
 have hQl : Q.length = n9 := by rw [e2, ← hQm, List.length_map]
 have hle : n9 ≤ n := by rw [e2]; exact hf.dec
 have HQM := Lib.hid hQm
 have HQI := Lib.hid (hQi.below hC.bel)
 have HQT := Lib.hid hQt
 have HQL := Lib.hid hQl
 have ct : W.cell? ⟨w.heap.size, 9, none⟩ = some (.slice p9 n9 q9) := hC.cellT (by omega)
 clear hin9 hl9 hQm hQi hQt e2
 obtain ⟨z1, HZ1, y0, y1⟩ := pick_nm v 6 (by omega)
 go_enter Tryz.func17, Tryz.ntmps17
 go_wp2_with fail
 refine (pick_at how 12 3 _ (by omega) (by omega) hk).mono ?_
 rintro e wz ⟨rfl, rfl⟩
 clear hW hC hx hf hk
 go_upto_region 28 with (first
  | (at_builtin; refine wpList_append_maps (.const (.slice none 0 0)) (.tmp 68) rfl rfl W.heap.size (.slice none 0 0) [] rfl (RowQ.nil _ _) p9 n9 q9 Q HQL.out rfl HQI.out (by have := HQL.out; simp; omega) (Nat.le_refl _) ?_; intro v1 w1 ho1 hg1; have hk1 : Keeps W w1 (fun _ => False) := keeps_g hg1; have hh1 := hk1.size)
  | (go_at_call 22; (with_reducible refine (pick_at v 6 z1 _ (by omega) (by omega) HZ1).mono ?_); rintro e wn ⟨rfl, rfl⟩)
  | (go_at_call 22; (with_reducible refine (pick_at at' 2 1 _ (by omega) (by omega) hk2).mono ?_); rintro e wn ⟨rfl, rfl⟩)
  | (at_builtin; refine wpList_append_map1 (.tmp 69) (.tmp 79) rfl rfl W.heap.size v1 ([] ++ Q) rfl (World.ownsRow.alloc ho1 _) 131072 [7680 + z1, 769] _ _ _ rfl (by simp) rfl (by have := HQL.out; simp; omega) (Nat.le_trans hh1 (by simp <;> omega)) ?_; intro v3 w3 ho3 hg3; have hk3 : Keeps W w3 (fun _ => False) := keeps_two hk1 ho1 (ka2 w1 _ _) hg3; have hcf : w3.cell? ⟨w.heap.size + 1 + 1, 9, none⟩ = some (.slice p9 n9 q9) ∧ w3.frozen? ⟨w.heap.size + 1 + 1, 9, none⟩ = false := HC.out.cellG hk3 (by omega); obtain ⟨c3, f3⟩ := hcf; obtain ⟨pv, cv, Nv, rfl⟩ : ∃ p c N, v3 = .slice p N c := (by obtain ⟨p, c, e⟩ := RowQ.slice ho3; exact ⟨p, c, _, e⟩)))
 have hown : ∀ k, v1.ownBlock = some k → k < w1.heap.size := fun k hk => (World.ownsRow.lt ho1 k hk).2
 rw [List.nil_append] at ho3
 have hY : ∀ q ∈ [((131072, [7680 + z1, 769]), .slice (some ⟨w1.heap.size, 0, none⟩) 2 2)], NewTo W w3 q := by
  intro q hq
  simp only [List.mem_cons, List.not_mem_nil, or_false] at hq
  subst hq
  exact new_to (W := W) (b := w1.heap.size) (off := 0) ((ints_cells w1 #[.int .i64 (7680 + z1), .int .i64 769] 3 0 [7680 + z1, 769] rfl (by intro k hk; have hk2 : k = 0 ∨ k = 1 := (by simp at hk; omega); rcases hk2 with rfl | rfl <;> rfl)).alloc _) (by simp) hg3 hown hh1 rfl
 have HE : Hid (∃ x' T', OEnd w (w.heap.size + 1 + 1) (w.heap.size + 1) n ⟨.slice p0 n0 q0, .slice p1 n1 q1, .slice p2 n2 q2, .slice p3 n3 q3, .slice p4 n4 q4, .slice p5 n5 q5, .slice p6 n6 q6, .slice p7 n7 q7, .slice p8 n8 q8, .slice p9 n9 q9, .slice p10 n10 q10, .slice p11 n11 q11⟩ (w3.setCell ⟨w.heap.size + 1 + 1, 9, none⟩ (.slice pv Nv cv)) x' T') :=
  ⟨_, { T with dec := T.dec ++ [(131072, [7680 + z1, 769])] }, HC.out.fin (i := 9) (by omega) hk3 (fun wz hz => by
   have o := HC.out.oldT HX.out hk3 wz hz
   exact ⟨o.cat, o.cls, o.joi, o.bid, o.scr, o.sta, o.ign, o.ext, o.map, (by have h := HC.out.maps hk3 ho3 (Nat.le_refl _) HQT.out hY (by have := HQL.out; simp; omega) wz hz; rw [HQM.out] at h; exact h), o.exc, o.pro⟩) ⟨Nat.le_trans HF.out.cat (by omega), Nat.le_trans HF.out.cls (by omega), Nat.le_trans HF.out.joi (by omega), Nat.le_trans HF.out.bid (by omega), Nat.le_trans HF.out.scr (by omega), Nat.le_trans HF.out.sta (by omega), Nat.le_trans HF.out.ign (by omega), Nat.le_trans HF.out.ext (by omega), Nat.le_trans HF.out.map (by omega), by simp only [List.length_append, List.length_cons, List.length_nil]; have := HF.out.dec; omega, Nat.le_trans HF.out.exc (by omega), Nat.le_trans HF.out.pro (by omega)⟩ (fun _ p n c e => row_cap ho3 e)⟩
 generalize (w3.setCell ⟨w.heap.size + 1 + 1, 9, none⟩ (.slice pv Nv cv)) = wx at HE ⊢
 clear ho1 hg1 hk1 hh1 hown ho3 hg3 hk3 hY c3 f3 ct
 generalize hrb : w.heap.size + 1 = rb at HE ⊢
 generalize hgg : w.heap.size + 1 + 1 = g at HE ⊢
 obtain ⟨⟨b0, b1, b2, b3, b4, b5, b6, b7, b8, b9, b10, b11⟩, T', he⟩ := HE.out
 have htv := he.tab wx (Keeps.refl _ _)
 obtain ⟨r0, m0, c0, hsl0⟩ : Slc b0 := htv.cat.slc
 subst hsl0
 obtain ⟨r1, m1, c1, hsl1⟩ : Slc b1 := htv.cls.slc
 subst hsl1
 obtain ⟨r2, m2, c2, hsl2⟩ : Slc b2 := htv.joi.slc
 subst hsl2
 obtain ⟨r3, m3, c3, hsl3⟩ : Slc b3 := htv.bid.slc
 subst hsl3
 obtain ⟨r4, m4, c4, hsl4⟩ : Slc b4 := htv.scr.slc
 subst hsl4
 obtain ⟨r5, m5, c5, hsl5⟩ : Slc b5 := htv.sta.slc
 subst hsl5
 obtain ⟨r6, m6, c6, hsl6⟩ : Slc b6 := htv.ign.slc
 subst hsl6
 obtain ⟨r7, m7, c7, hsl7⟩ : Slc b7 := htv.ext.slc
 subst hsl7
 obtain ⟨r8, m8, c8, hsl8⟩ : Slc b8 := htv.map.slc
 subst hsl8
 obtain ⟨r9, m9, c9, hsl9⟩ : Slc b9 := htv.dec.slc
 subst hsl9
 obtain ⟨r10, m10, c10, hsl10⟩ : Slc b10 := htv.exc.slc
 subst hsl10
 obtain ⟨r11, m11, c11, hsl11⟩ : Slc b11 := htv.pro.slc
 subst hsl11
 have HEE := Lib.hid he
 obtain ⟨⟨k0, k1, k2, k3, k4, k5⟩, ⟨k6, k7, k8, k9, k10, k11⟩⟩ := he.box.load
 simp only at k0 k1 k2 k3 k4 k5 k6 k7 k8 k9 k10 k11
 obtain ⟨s0, t0⟩ := he.res 0 (by omega)
 obtain ⟨s1, t1⟩ := he.res 1 (by omega)
 obtain ⟨s2, t2⟩ := he.res 2 (by omega)
 obtain ⟨s3, t3⟩ := he.res 3 (by omega)
 obtain ⟨s4, t4⟩ := he.res 4 (by omega)
 obtain ⟨s5, t5⟩ := he.res 5 (by omega)
 obtain ⟨s6, t6⟩ := he.res 6 (by omega)
 obtain ⟨s7, t7⟩ := he.res 7 (by omega)
 obtain ⟨s8, t8⟩ := he.res 8 (by omega)
 obtain ⟨s9, t9⟩ := he.res 9 (by omega)
 obtain ⟨s10, t10⟩ := he.res 10 (by omega)
 obtain ⟨s11, t11⟩ := he.res 11 (by omega)
 have HRB : Hid (w.heap.size ≤ rb) := by unfold Hid; omega
 clear HE he htv hrb hgg
 go_wp2
 obtain ⟨hbF, hkF⟩ := store12 wx rb (.slice r0 m0 c0) (.slice r1 m1 c1) (.slice r2 m2 c2) (.slice r3 m3 c3) (.slice r4 m4 c4) (.slice r5 m5 c5) (.slice r6 m6 c6) (.slice r7 m7 c7) (.slice r8 m8 c8) (.slice r9 m9 c9) (.slice r10 m10 c10) (.slice r11 m11 c11) HEE.out.res
 generalize (World.setCell (World.setCell (World.setCell (World.setCell (World.setCell (World.setCell (World.setCell (World.setCell (World.setCell (World.setCell (World.setCell (World.setCell (wx) ⟨rb, 0, none⟩ (.slice r0 m0 c0)) ⟨rb, 1, none⟩ (.slice r1 m1 c1)) ⟨rb, 2, none⟩ (.slice r2 m2 c2)) ⟨rb, 3, none⟩ (.slice r3 m3 c3)) ⟨rb, 4, none⟩ (.slice r4 m4 c4)) ⟨rb, 5, none⟩ (.slice r5 m5 c5)) ⟨rb, 6, none⟩ (.slice r6 m6 c6)) ⟨rb, 7, none⟩ (.slice r7 m7 c7)) ⟨rb, 8, none⟩ (.slice r8 m8 c8)) ⟨rb, 9, none⟩ (.slice r9 m9 c9)) ⟨rb, 10, none⟩ (.slice r10 m10 c10)) ⟨rb, 11, none⟩ (.slice r11 m11 c11)) = WF at hbF hkF ⊢
 obtain ⟨⟨Q0, Q1, Q2, Q3, Q4, Q5⟩, ⟨Q6, Q7, Q8, Q9, Q10, Q11⟩⟩ := hbF.load
 simp only at Q0 Q1 Q2 Q3 Q4 Q5 Q6 Q7 Q8 Q9 Q10 Q11
 refine bodyPost_ret (v := .agg #[.slice r0 m0 c0, .slice r1 m1 c1, .slice r2 m2 c2, .slice r3 m3 c3, .slice r4 m4 c4, .slice r5 m5 c5, .slice r6 m6 c6, .slice r7 m7 c7, .slice r8 m8 c8, .slice r9 m9 c9, .slice r10 m10 c10, .slice r11 m11 c11]) (by simp [results, Tryz.results17, go_sem, Q0, Q1, Q2, Q3, Q4, Q5, Q6, Q7, Q8, Q9, Q10, Q11]) rfl ?_
 exact ⟨⟨.slice r0 m0 c0, .slice r1 m1 c1, .slice r2 m2 c2, .slice r3 m3 c3, .slice r4 m4 c4, .slice r5 m5 c5, .slice r6 m6 c6, .slice r7 m7 c7, .slice r8 m8 c8, .slice r9 m9 c9, .slice r10 m10 c10, .slice r11 m11 c11⟩, T', rfl, HEE.out.tab WF hkF, HEE.out.few, HEE.out.cap, HEE.out.bel.trans (hkF.below HEE.out.bel.size (fun b _ e => by have := HRB.out; omega))⟩
set_option maxRecDepth 100000 in
set_option maxHeartbeats 4000000 in
theorem other_7 (x : TV) (T : Tb) (n : Nat) (how at' v : Int) (w : World) (hx : TabV w x T) (hf : Few n T) (hn : n ≤ 1000) (hk : Hid (pickS how 12 = 7)) :
 Calls Tryz.prog 17 #[x.agg, .int .i64 how, .int .i64 at', .int .i64 v] w (OtherPost x n w) := by
 obtain ⟨a0, a1, a2, a3, a4, a5, a6, a7, a8, a9, a10, a11⟩ := x
 obtain ⟨p0, n0, q0, hsl0⟩ : Slc a0 := hx.cat.slc
 subst hsl0
 obtain ⟨p1, n1, q1, hsl1⟩ : Slc a1 := hx.cls.slc
 subst hsl1
 obtain ⟨p2, n2, q2, hsl2⟩ : Slc a2 := hx.joi.slc
 subst hsl2
 obtain ⟨p3, n3, q3, hsl3⟩ : Slc a3 := hx.bid.slc
 subst hsl3
 obtain ⟨p4, n4, q4, hsl4⟩ : Slc a4 := hx.scr.slc
 subst hsl4
 obtain ⟨p5, n5, q5, hsl5⟩ : Slc a5 := hx.sta.slc
 subst hsl5
 obtain ⟨p6, n6, q6, hsl6⟩ : Slc a6 := hx.ign.slc
 subst hsl6
 obtain ⟨p7, n7, q7, hsl7⟩ : Slc a7 := hx.ext.slc
 subst hsl7
 obtain ⟨p8, n8, q8, hsl8⟩ : Slc a8 := hx.map.slc
 subst hsl8
 obtain ⟨p9, n9, q9, hsl9⟩ : Slc a9 := hx.dec.slc
 subst hsl9
 obtain ⟨p10, n10, q10, hsl10⟩ : Slc a10 := hx.exc.slc
 subst hsl10
 obtain ⟨p11, n11, q11, hsl11⟩ : Slc a11 := hx.pro.slc
 subst hsl11
 have hC := OCase.new w ⟨.slice p0 n0 q0, .slice p1 n1 q1, .slice p2 n2 q2, .slice p3 n3 q3, .slice p4 n4 q4, .slice p5 n5 q5, .slice p6 n6 q6, .slice p7 n7 q7, .slice p8 n8 q8, .slice p9 n9 q9, .slice p10 n10 q10, .slice p11 n11 q11⟩ 26
 obtain ⟨W, hW⟩ : ∃ W, ((w.alloc (.cells #[.slice p0 n0 q0, .slice p1 n1 q1, .slice p2 n2 q2, .slice p3 n3 q3, .slice p4 n4 q4, .slice p5 n5 q5, .slice p6 n6 q6, .slice p7 n7 q7, .slice p8 n8 q8, .slice p9 n9 q9, .slice p10 n10 q10, .slice p11 n11 q11] 26)).alloc (.cells nilC 26)).alloc (.cells #[.slice p0 n0 q0, .slice p1 n1 q1, .slice p2 n2 q2, .slice p3 n3 q3, .slice p4 n4 q4, .slice p5 n5 q5, .slice p6 n6 q6, .slice p7 n7 q7, .slice p8 n8 q8, .slice p9 n9 q9, .slice p10 n10 q10, .slice p11 n11 q11] 26) = W := ⟨_, rfl⟩
 simp only [tabCells] at hC
 rw [hW] at hC
 have HC := Lib.hid hC
 have HX := Lib.hid hx
 have HF := Lib.hid hf
 obtain ⟨pp, cc, he8, hin8, hl8⟩ := hx.map
 injection he8 with e1 e2 e3
 subst e1
 subst e3
 obtain ⟨Q, hQm, hQi, hQt⟩ := mq_of hin8
 have hQl : Q.length = n8 := by rw [e2, ← hQm, List.length_map]
 have hle : n8 ≤ n := by rw [e2]; exact hf.map
 have HQM := Lib.hid hQm
 have HQI := Lib.hid (hQi.below hC.bel)
 have HQT := Lib.hid hQt
 have HQL := Lib.hid hQl
 have ct : W.cell? ⟨w.heap.size, 8, none⟩ = some (.slice p8 n8 q8) := hC.cellT (by omega)
 clear hin8 hl8 hQm hQi hQt e2
 go_enter Tryz.func17, Tryz.ntmps17
 go_wp2_with fail
 refine (pick_at how 12 7 _ (by omega) (by omega) hk).mono ?_
 rintro e wz ⟨rfl, rfl⟩
 clear hW hC hx hf hk
 go_upto_region 28 with (first
  | (at_builtin; refine wpList_append_maps (.const (.slice none 0 0)) (.tmp 128) rfl rfl W.heap.size (.slice none 0 0) [] rfl (RowQ.nil _ _) p8 n8 q8 Q HQL.out rfl HQI.out (by have := HQL.out; simp; omega) (Nat.le_refl _) ?_; intro v1 w1 ho1 hg1; have hk1 : Keeps W w1 (fun _ => False) := keeps_g hg1; have hh1 := hk1.size)
  | (at_builtin; refine wpList_append_map1 (.tmp 129) (.tmp 132) rfl rfl W.heap.size v1 ([] ++ Q) rfl (World.ownsRow.alloc ho1 _) 131072 [97] _ _ _ rfl (by simp) rfl (by have := HQL.out; simp; omega) (Nat.le_trans hh1 (by simp <;> omega)) ?_; intro v3 w3 ho3 hg3; have hk3 : Keeps W w3 (fun _ => False) := keeps_two hk1 ho1 (ka2 w1 _ _) hg3; have hcf : w3.cell? ⟨w.heap.size + 1 + 1, 8, none⟩ = some (.slice p8 n8 q8) ∧ w3.frozen? ⟨w.heap.size + 1 + 1, 8, none⟩ = false := HC.out.cellG hk3 (by omega); obtain ⟨c3, f3⟩ := hcf; obtain ⟨pv, cv, Nv, rfl⟩ : ∃ p c N, v3 = .slice p N c := (by obtain ⟨p, c, e⟩ := RowQ.slice ho3; exact ⟨p, c, _, e⟩)))
 have hown : ∀ k, v1.ownBlock = some k → k < w1.heap.size := fun k hk => (World.ownsRow.lt ho1 k hk).2
 rw [List.nil_append] at ho3
 have hY : ∀ q ∈ [((131072, [97]), .slice (some ⟨w1.heap.size, 0, none⟩) 1 1)], NewTo W w3 q := by
  intro q hq
  simp only [List.mem_cons, List.not_mem_nil, or_false] at hq
  subst hq
  exact new_to (W := W) (b := w1.heap.size) (off := 0) ((ints_cells w1 #[.int .i64 97] 3 0 [97] rfl (by intro k hk; have hk2 : k = 0 := (by simp at hk; omega); rcases hk2 with rfl; rfl)).alloc _) (by simp) hg3 hown hh1 rfl
 have HE : Hid (∃ x' T', OEnd w (w.heap.size + 1 + 1) (w.heap.size + 1) n ⟨.slice p0 n0 q0, .slice p1 n1 q1, .slice p2 n2 q2, .slice p3 n3 q3, .slice p4 n4 q4, .slice p5 n5 q5, .slice p6 n6 q6, .slice p7 n7 q7, .slice p8 n8 q8, .slice p9 n9 q9, .slice p10 n10 q10, .slice p11 n11 q11⟩ (w3.setCell ⟨w.heap.size + 1 + 1, 8, none⟩ (.slice pv Nv cv)) x' T') :=
  ⟨_, { T with map := T.map ++ [(131072, [97])] }, HC.out.fin (i := 8) (by omega) hk3 (fun wz hz => by
   have o := HC.out.oldT HX.out hk3 wz hz
   exact ⟨o.cat, o.cls, o.joi, o.bid, o.scr, o.sta, o.ign, o.ext, (by have h := HC.out.maps hk3 ho3 (Nat.le_refl _) HQT.out hY (by have := HQL.out; simp; omega) wz hz; rw [HQM.out] at h; exact h), o.dec, o.exc, o.pro⟩) ⟨Nat.le_trans HF.out.cat (by omega), Nat.le_trans HF.out.cls (by omega), Nat.le_trans HF.out.joi (by omega), Nat.le_trans HF.out.bid (by omega), Nat.le_trans HF.out.scr (by omega), Nat.le_trans HF.out.sta (by omega), Nat.le_trans HF.out.ign (by omega), Nat.le_trans HF.out.ext (by omega), by simp only [List.length_append, List.length_cons, List.length_nil]; have := HF.out.map; omega, Nat.le_trans HF.out.dec (by omega), Nat.le_trans HF.out.exc (by omega), Nat.le_trans HF.out.pro (by omega)⟩ (fun h p n c e => h p n c e)⟩
 generalize (w3.setCell ⟨w.heap.size + 1 + 1, 8, none⟩ (.slice pv Nv cv)) = wx at HE ⊢
 clear ho1 hg1 hk1 hh1 hown ho3 hg3 hk3 hY c3 f3 ct
 generalize hrb : w.heap.size + 1 = rb at HE ⊢
 generalize hgg : w.heap.size + 1 + 1 = g at HE ⊢
 obtain ⟨⟨b0, b1, b2, b3, b4, b5, b6, b7, b8, b9, b10, b11⟩, T', he⟩ := HE.out
 have htv := he.tab wx (Keeps.refl _ _)
 obtain ⟨r0, m0, c0, hsl0⟩ : Slc b0 := htv.cat.slc
 subst hsl0
 obtain ⟨r1, m1, c1, hsl1⟩ : Slc b1 := htv.cls.slc
 subst hsl1
 obtain ⟨r2, m2, c2, hsl2⟩ : Slc b2 := htv.joi.slc
 subst hsl2
 obtain ⟨r3, m3, c3, hsl3⟩ : Slc b3 := htv.bid.slc
 subst hsl3
 obtain ⟨r4, m4, c4, hsl4⟩ : Slc b4 := htv.scr.slc
 subst hsl4
 obtain ⟨r5, m5, c5, hsl5⟩ : Slc b5 := htv.sta.slc
 subst hsl5
 obtain ⟨r6, m6, c6, hsl6⟩ : Slc b6 := htv.ign.slc
 subst hsl6
 obtain ⟨r7, m7, c7, hsl7⟩ : Slc b7 := htv.ext.slc
 subst hsl7
 obtain ⟨r8, m8, c8, hsl8⟩ : Slc b8 := htv.map.slc
 subst hsl8
 obtain ⟨r9, m9, c9, hsl9⟩ : Slc b9 := htv.dec.slc
 subst hsl9
 obtain ⟨r10, m10, c10, hsl10⟩ : Slc b10 := htv.exc.slc
 subst hsl10
 obtain ⟨r11, m11, c11, hsl11⟩ : Slc b11 := htv.pro.slc
 subst hsl11
 have HEE := Lib.hid he
 obtain ⟨⟨k0, k1, k2, k3, k4, k5⟩, ⟨k6, k7, k8, k9, k10, k11⟩⟩ := he.box.load
 simp only at k0 k1 k2 k3 k4 k5 k6 k7 k8 k9 k10 k11
 obtain ⟨s0, t0⟩ := he.res 0 (by omega)
 obtain ⟨s1, t1⟩ := he.res 1 (by omega)
 obtain ⟨s2, t2⟩ := he.res 2 (by omega)
 obtain ⟨s3, t3⟩ := he.res 3 (by omega)
 obtain ⟨s4, t4⟩ := he.res 4 (by omega)
 obtain ⟨s5, t5⟩ := he.res 5 (by omega)
 obtain ⟨s6, t6⟩ := he.res 6 (by omega)
 obtain ⟨s7, t7⟩ := he.res 7 (by omega)
 obtain ⟨s8, t8⟩ := he.res 8 (by omega)
 obtain ⟨s9, t9⟩ := he.res 9 (by omega)
 obtain ⟨s10, t10⟩ := he.res 10 (by omega)
 obtain ⟨s11, t11⟩ := he.res 11 (by omega)
 have HRB : Hid (w.heap.size ≤ rb) := by unfold Hid; omega
 clear HE he htv hrb hgg
 go_wp2
 obtain ⟨hbF, hkF⟩ := store12 wx rb (.slice r0 m0 c0) (.slice r1 m1 c1) (.slice r2 m2 c2) (.slice r3 m3 c3) (.slice r4 m4 c4) (.slice r5 m5 c5) (.slice r6 m6 c6) (.slice r7 m7 c7) (.slice r8 m8 c8) (.slice r9 m9 c9) (.slice r10 m10 c10) (.slice r11 m11 c11) HEE.out.res
 generalize (World.setCell (World.setCell (World.setCell (World.setCell (World.setCell (World.setCell (World.setCell (World.setCell (World.setCell (World.setCell (World.setCell (World.setCell (wx) ⟨rb, 0, none⟩ (.slice r0 m0 c0)) ⟨rb, 1, none⟩ (.slice r1 m1 c1)) ⟨rb, 2, none⟩ (.slice r2 m2 c2)) ⟨rb, 3, none⟩ (.slice r3 m3 c3)) ⟨rb, 4, none⟩ (.slice r4 m4 c4)) ⟨rb, 5, none⟩ (.slice r5 m5 c5)) ⟨rb, 6, none⟩ (.slice r6 m6 c6)) ⟨rb, 7, none⟩ (.slice r7 m7 c7)) ⟨rb, 8, none⟩ (.slice r8 m8 c8)) ⟨rb, 9, none⟩ (.slice r9 m9 c9)) ⟨rb, 10, none⟩ (.slice r10 m10 c10)) ⟨rb, 11, none⟩ (.slice r11 m11 c11)) = WF at hbF hkF ⊢
 obtain ⟨⟨Q0, Q1, Q2, Q3, Q4, Q5⟩, ⟨Q6, Q7, Q8, Q9, Q10, Q11⟩⟩ := hbF.load
 simp only at Q0 Q1 Q2 Q3 Q4 Q5 Q6 Q7 Q8 Q9 Q10 Q11
 refine bodyPost_ret (v := .agg #[.slice r0 m0 c0, .slice r1 m1 c1, .slice r2 m2 c2, .slice r3 m3 c3, .slice r4 m4 c4, .slice r5 m5 c5, .slice r6 m6 c6, .slice r7 m7 c7, .slice r8 m8 c8, .slice r9 m9 c9, .slice r10 m10 c10, .slice r11 m11 c11]) (by simp [results, Tryz.results17, go_sem, Q0, Q1, Q2, Q3, Q4, Q5, Q6, Q7, Q8, Q9, Q10, Q11]) rfl ?_
 exact ⟨⟨.slice r0 m0 c0, .slice r1 m1 c1, .slice r2 m2 c2, .slice r3 m3 c3, .slice r4 m4 c4, .slice r5 m5 c5, .slice r6 m6 c6, .slice r7 m7 c7, .slice r8 m8 c8, .slice r9 m9 c9, .slice r10 m10 c10, .slice r11 m11 c11⟩, T', rfl, HEE.out.tab WF hkF, HEE.out.few, HEE.out.cap, HEE.out.bel.trans (hkF.below HEE.out.bel.size (fun b _ e => by have := HRB.out; omega))⟩
set_option maxRecDepth 100000 in
set_option maxHeartbeats 4000000 in
theorem other_11a (x : TV) (T : Tb) (n : Nat) (how at' v : Int) (w : World) (hx : TabV w x T) (hf : Few n T) (hn : n ≤ 1000) (hk : Hid (pickS how 12 = 11)) (hk2 : Hid (pickS v 2 = 0)) :
 Calls Tryz.prog 17 #[x.agg, .int .i64 how, .int .i64 at', .int .i64 v] w (OtherPost x n w) := by
 obtain ⟨a0, a1, a2, a3, a4, a5, a6, a7, a8, a9, a10, a11⟩ := x
 obtain ⟨p0, n0, q0, hsl0⟩ : Slc a0 := hx.cat.slc
 subst hsl0
 obtain ⟨p1, n1, q1, hsl1⟩ : Slc a1 := hx.cls.slc
 subst hsl1
 obtain ⟨p2, n2, q2, hsl2⟩ : Slc a2 := hx.joi.slc
 subst hsl2
 obtain ⟨p3, n3, q3, hsl3⟩ : Slc a3 := hx.bid.slc
 subst hsl3
 obtain ⟨p4, n4, q4, hsl4⟩ : Slc a4 := hx.scr.slc
 subst hsl4
 obtain ⟨p5, n5, q5, hsl5⟩ : Slc a5 := hx.sta.slc
 subst hsl5
 obtain ⟨p6, n6, q6, hsl6⟩ : Slc a6 := hx.ign.slc
 subst hsl6
 obtain ⟨p7, n7, q7, hsl7⟩ : Slc a7 := hx.ext.slc
 subst hsl7
 obtain ⟨p8, n8, q8, hsl8⟩ : Slc a8 := hx.map.slc
 subst hsl8
 obtain ⟨p9, n9, q9, hsl9⟩ : Slc a9 := hx.dec.slc
 subst hsl9
 obtain ⟨p10, n10, q10, hsl10⟩ : Slc a10 := hx.exc.slc
 subst hsl10
 obtain ⟨p11, n11, q11, hsl11⟩ : Slc a11 := hx.pro.slc
 subst hsl11
 have hC := OCase.new w ⟨.slice p0 n0 q0, .slice p1 n1 q1, .slice p2 n2 q2, .slice p3 n3 q3, .slice p4 n4 q4, .slice p5 n5 q5, .slice p6 n6 q6, .slice p7 n7 q7, .slice p8 n8 q8, .slice p9 n9 q9, .slice p10 n10 q10, .slice p11 n11 q11⟩ 26
 obtain ⟨W, hW⟩ : ∃ W, ((w.alloc (.cells #[.slice p0 n0 q0, .slice p1 n1 q1, .slice p2 n2 q2, .slice p3 n3 q3, .slice p4 n4 q4, .slice p5 n5 q5, .slice p6 n6 q6, .slice p7 n7 q7, .slice p8 n8 q8, .slice p9 n9 q9, .slice p10 n10 q10, .slice p11 n11 q11] 26)).alloc (.cells nilC 26)).alloc (.cells #[.slice p0 n0 q0, .slice p1 n1 q1, .slice p2 n2 q2, .slice p3 n3 q3, .slice p4 n4 q4, .slice p5 n5 q5, .slice p6 n6 q6, .slice p7 n7 q7, .slice p8 n8 q8, .slice p9 n9 q9, .slice p10 n10 q10, .slice p11 n11 q11] 26) = W := ⟨_, rfl⟩
 simp only [tabCells] at hC
 rw [hW] at hC
 have HC := Lib.hid hC
 have HX := Lib.hid hx
 have HF := Lib.hid hf
 obtain ⟨pp, cc, he9, hin9, hl9⟩ := hx.dec
 injection he9 with e1 e2 e3
 subst e1
 subst e3
 obtain ⟨Q, hQm, hQi, hQt⟩ := mq_of hin9
 have hQl : Q.length = n9 := by rw [e2, ← hQm, List.length_map]
 have hle : n9 ≤ n := by rw [e2]; exact hf.dec
 have HQM := Lib.hid hQm
 have HQI := Lib.hid (hQi.below hC.bel)
 have HQT := Lib.hid hQt
 have HQL := Lib.hid hQl
 have ct : W.cell? ⟨w.heap.size, 9, none⟩ = some (.slice p9 n9 q9) := hC.cellT (by omega)
 clear hin9 hl9 hQm hQi hQt e2
 go_enter Tryz.func17, Tryz.ntmps17
 go_wp2_with fail
 refine (pick_at how 12 11 _ (by omega) (by omega) hk).mono ?_
 rintro e wz ⟨rfl, rfl⟩
 clear hW hC hx hf hk
 go_upto_region 28 with (first
  | (at_builtin; refine wpList_append_maps (.const (.slice none 0 0)) (.tmp 14) rfl rfl W.heap.size (.slice none 0 0) [] rfl (RowQ.nil _ _) p9 n9 q9 Q HQL.out rfl HQI.out (by have := HQL.out; simp; omega) (Nat.le_refl _) ?_; intro v1 w1 ho1 hg1; have hk1 : Keeps W w1 (fun _ => False) := keeps_g hg1; have hh1 := hk1.size)
  | (go_at_call 22; (with_reducible refine (pick_at v 2 0 _ (by omega) (by omega) hk2).mono ?_); rintro e wn ⟨rfl, rfl⟩)
  | (at_builtin; refine wpList_append_map2 (.tmp 15) (.tmp 23) rfl rfl W.heap.size v1 ([] ++ Q) rfl (World.ownsRow.alloc (World.ownsRow.alloc ho1 _) _) 131072 [131073] _ 131073 [98, 131072] _ _ _ rfl (by simp) rfl rfl (by have := HQL.out; simp; omega) (Nat.le_trans hh1 (by simp <;> omega)) ?_; intro v3 w3 ho3 hg3; have hk3 : Keeps W w3 (fun _ => False) := keeps_two hk1 ho1 (ka3 w1 _ _ _) hg3; have hcf : w3.cell? ⟨w.heap.size + 1 + 1, 9, none⟩ = some (.slice p9 n9 q9) ∧ w3.frozen? ⟨w.heap.size + 1 + 1, 9, none⟩ = false := HC.out.cellG hk3 (by omega); obtain ⟨c3, f3⟩ := hcf; obtain ⟨pv, cv, Nv, rfl⟩ : ∃ p c N, v3 = .slice p N c := (by obtain ⟨p, c, e⟩ := RowQ.slice ho3; exact ⟨p, c, _, e⟩)))
 have hown : ∀ k, v1.ownBlock = some k → k < w1.heap.size := fun k hk => (World.ownsRow.lt ho1 k hk).2
 rw [List.nil_append] at ho3
 have hY : ∀ q ∈ [((131072, [131073]), .slice (some ⟨w1.heap.size, 0, none⟩) 1 1), ((131073, [98, 131072]), .slice (some ⟨w1.heap.size + 1, 0, none⟩) 2 2)], NewTo W w3 q := by
  intro q hq
  simp only [List.mem_cons, List.not_mem_nil, or_false] at hq
  rcases hq with rfl | rfl
  ·exact new_to (W := W) (b := w1.heap.size) (off := 0) (((ints_cells w1 #[.int .i64 131073] 3 0 [131073] rfl (by intro k hk; have hk2 : k = 0 := (by simp at hk; omega); rcases hk2 with rfl; rfl)).alloc _).alloc _) (by simp) hg3 hown hh1 rfl
  ·exact new_to (W := W) (b := w1.heap.size + 1) (off := 0) ((ints_cells (w1.alloc (.cells #[.int .i64 131073] 3)) #[.int .i64 98, .int .i64 131072] 3 0 [98, 131072] (by simp) (by intro k hk; have hk2 : k = 0 ∨ k = 1 := (by simp at hk; omega); rcases hk2 with rfl | rfl <;> rfl)).alloc _) (by simp) hg3 (fun k hk => Nat.lt_succ_of_lt (hown k hk)) (Nat.le_succ_of_le hh1) rfl
 have HE : Hid (∃ x' T', OEnd w (w.heap.size + 1 + 1) (w.heap.size + 1) n ⟨.slice p0 n0 q0, .slice p1 n1 q1, .slice p2 n2 q2, .slice p3 n3 q3, .slice p4 n4 q4, .slice p5 n5 q5, .slice p6 n6 q6, .slice p7 n7 q7, .slice p8 n8 q8, .slice p9 n9 q9, .slice p10 n10 q10, .slice p11 n11 q11⟩ (w3.setCell ⟨w.heap.size + 1 + 1, 9, none⟩ (.slice pv Nv cv)) x' T') :=
  ⟨_, { T with dec := T.dec ++ [(131072, [131073]), (131073, [98, 131072])] }, HC.out.fin (i := 9) (by omega) hk3 (fun wz hz => by
   have o := HC.out.oldT HX.out hk3 wz hz
   exact ⟨o.cat, o.cls, o.joi, o.bid, o.scr, o.sta, o.ign, o.ext, o.map, (by have h := HC.out.maps hk3 ho3 (Nat.le_refl _) HQT.out hY (by have := HQL.out; simp; omega) wz hz; rw [HQM.out] at h; exact h), o.exc, o.pro⟩) ⟨Nat.le_trans HF.out.cat (by omega), Nat.le_trans HF.out.cls (by omega), Nat.le_trans HF.out.joi (by omega), Nat.le_trans HF.out.bid (by omega), Nat.le_trans HF.out.scr (by omega), Nat.le_trans HF.out.sta (by omega), Nat.le_trans HF.out.ign (by omega), Nat.le_trans HF.out.ext (by omega), Nat.le_trans HF.out.map (by omega), by simp only [List.length_append, List.length_cons, List.length_nil]; have := HF.out.dec; omega, Nat.le_trans HF.out.exc (by omega), Nat.le_trans HF.out.pro (by omega)⟩ (fun _ p n c e => row_cap ho3 e)⟩
 generalize (w3.setCell ⟨w.heap.size + 1 + 1, 9, none⟩ (.slice pv Nv cv)) = wx at HE ⊢
 clear ho1 hg1 hk1 hh1 hown ho3 hg3 hk3 hY c3 f3 ct
 generalize hrb : w.heap.size + 1 = rb at HE ⊢
 generalize hgg : w.heap.size + 1 + 1 = g at HE ⊢
 obtain ⟨⟨b0, b1, b2, b3, b4, b5, b6, b7, b8, b9, b10, b11⟩, T', he⟩ := HE.out
 have htv := he.tab wx (Keeps.refl _ _)
 obtain ⟨r0, m0, c0, hsl0⟩ : Slc b0 := htv.cat.slc
 subst hsl0
 obtain ⟨r1, m1, c1, hsl1⟩ : Slc b1 := htv.cls.slc
 subst hsl1
 obtain ⟨r2, m2, c2, hsl2⟩ : Slc b2 := htv.joi.slc
 subst hsl2
 obtain ⟨r3, m3, c3, hsl3⟩ : Slc b3 := htv.bid.slc
 subst hsl3
 obtain ⟨r4, m4, c4, hsl4⟩ : Slc b4 := htv.scr.slc
 subst hsl4
 obtain ⟨r5, m5, c5, hsl5⟩ : Slc b5 := htv.sta.slc
 subst hsl5
 obtain ⟨r6, m6, c6, hsl6⟩ : Slc b6 := htv.ign.slc
 subst hsl6
 obtain ⟨r7, m7, c7, hsl7⟩ : Slc b7 := htv.ext.slc
 subst hsl7
 obtain ⟨r8, m8, c8, hsl8⟩ : Slc b8 := htv.map.slc
 subst hsl8
 obtain ⟨r9, m9, c9, hsl9⟩ : Slc b9 := htv.dec.slc
 subst hsl9
 obtain ⟨r10, m10, c10, hsl10⟩ : Slc b10 := htv.exc.slc
 subst hsl10
 obtain ⟨r11, m11, c11, hsl11⟩ : Slc b11 := htv.pro.slc
 subst hsl11
 have HEE := Lib.hid he
 obtain ⟨⟨k0, k1, k2, k3, k4, k5⟩, ⟨k6, k7, k8, k9, k10, k11⟩⟩ := he.box.load
 simp only at k0 k1 k2 k3 k4 k5 k6 k7 k8 k9 k10 k11
 obtain ⟨s0, t0⟩ := he.res 0 (by omega)
 obtain ⟨s1, t1⟩ := he.res 1 (by omega)
 obtain ⟨s2, t2⟩ := he.res 2 (by omega)
 obtain ⟨s3, t3⟩ := he.res 3 (by omega)
 obtain ⟨s4, t4⟩ := he.res 4 (by omega)
 obtain ⟨s5, t5⟩ := he.res 5 (by omega)
 obtain ⟨s6, t6⟩ := he.res 6 (by omega)
 obtain ⟨s7, t7⟩ := he.res 7 (by omega)
 obtain ⟨s8, t8⟩ := he.res 8 (by omega)
 obtain ⟨s9, t9⟩ := he.res 9 (by omega)
 obtain ⟨s10, t10⟩ := he.res 10 (by omega)
 obtain ⟨s11, t11⟩ := he.res 11 (by omega)
 have HRB : Hid (w.heap.size ≤ rb) := by unfold Hid; omega
 clear HE he htv hrb hgg
 go_wp2
 obtain ⟨hbF, hkF⟩ := store12 wx rb (.slice r0 m0 c0) (.slice r1 m1 c1) (.slice r2 m2 c2) (.slice r3 m3 c3) (.slice r4 m4 c4) (.slice r5 m5 c5) (.slice r6 m6 c6) (.slice r7 m7 c7) (.slice r8 m8 c8) (.slice r9 m9 c9) (.slice r10 m10 c10) (.slice r11 m11 c11) HEE.out.res
 generalize (World.setCell (World.setCell (World.setCell (World.setCell (World.setCell (World.setCell (World.setCell (World.setCell (World.setCell (World.setCell (World.setCell (World.setCell (wx) ⟨rb, 0, none⟩ (.slice r0 m0 c0)) ⟨rb, 1, none⟩ (.slice r1 m1 c1)) ⟨rb, 2, none⟩ (.slice r2 m2 c2)) ⟨rb, 3, none⟩ (.slice r3 m3 c3)) ⟨rb, 4, none⟩ (.slice r4 m4 c4)) ⟨rb, 5, none⟩ (.slice r5 m5 c5)) ⟨rb, 6, none⟩ (.slice r6 m6 c6)) ⟨rb, 7, none⟩ (.slice r7 m7 c7)) ⟨rb, 8, none⟩ (.slice r8 m8 c8)) ⟨rb, 9, none⟩ (.slice r9 m9 c9)) ⟨rb, 10, none⟩ (.slice r10 m10 c10)) ⟨rb, 11, none⟩ (.slice r11 m11 c11)) = WF at hbF hkF ⊢
 obtain ⟨⟨Q0, Q1, Q2, Q3, Q4, Q5⟩, ⟨Q6, Q7, Q8, Q9, Q10, Q11⟩⟩ := hbF.load
 simp only at Q0 Q1 Q2 Q3 Q4 Q5 Q6 Q7 Q8 Q9 Q10 Q11
 refine bodyPost_ret (v := .agg #[.slice r0 m0 c0, .slice r1 m1 c1, .slice r2 m2 c2, .slice r3 m3 c3, .slice r4 m4 c4, .slice r5 m5 c5, .slice r6 m6 c6, .slice r7 m7 c7, .slice r8 m8 c8, .slice r9 m9 c9, .slice r10 m10 c10, .slice r11 m11 c11]) (by simp [results, Tryz.results17, go_sem, Q0, Q1, Q2, Q3, Q4, Q5, Q6, Q7, Q8, Q9, Q10, Q11]) rfl ?_
 exact ⟨⟨.slice r0 m0 c0, .slice r1 m1 c1, .slice r2 m2 c2, .slice r3 m3 c3, .slice r4 m4 c4, .slice r5 m5 c5, .slice r6 m6 c6, .slice r7 m7 c7, .slice r8 m8 c8, .slice r9 m9 c9, .slice r10 m10 c10, .slice r11 m11 c11⟩, T', rfl, HEE.out.tab WF hkF, HEE.out.few, HEE.out.cap, HEE.out.bel.trans (hkF.below HEE.out.bel.size (fun b _ e => by have := HRB.out; omega))⟩
set_option maxRecDepth 100000 in
set_option maxHeartbeats 4000000 in
theorem other_11b (x : TV) (T : Tb) (n : Nat) (how at' v : Int) (w : World) (hx : TabV w x T) (hf : Few n T) (hn : n ≤ 1000) (hk : Hid (pickS how 12 = 11)) (hk2 : Hid (pickS v 2 = 1)) :
 Calls Tryz.prog 17 #[x.agg, .int .i64 how, .int .i64 at', .int .i64 v] w (OtherPost x n w) := by
 obtain ⟨a0, a1, a2, a3, a4, a5, a6, a7, a8, a9, a10, a11⟩ := x
 obtain ⟨p0, n0, q0, hsl0⟩ : Slc a0 := hx.cat.slc
 subst hsl0
 obtain ⟨p1, n1, q1, hsl1⟩ : Slc a1 := hx.cls.slc
 subst hsl1
 obtain ⟨p2, n2, q2, hsl2⟩ : Slc a2 := hx.joi.slc
 subst hsl2
 obtain ⟨p3, n3, q3, hsl3⟩ : Slc a3 := hx.bid.slc
 subst hsl3
 obtain ⟨p4, n4, q4, hsl4⟩ : Slc a4 := hx.scr.slc
 subst hsl4
 obtain ⟨p5, n5, q5, hsl5⟩ : Slc a5 := hx.sta.slc
 subst hsl5
 obtain ⟨p6, n6, q6, hsl6⟩ : Slc a6 := hx.ign.slc
 subst hsl6
 obtain ⟨p7, n7, q7, hsl7⟩ : Slc a7 := hx.ext.slc
 subst hsl7
 obtain ⟨p8, n8, q8, hsl8⟩ : Slc a8 := hx.map.slc
 subst hsl8
 obtain ⟨p9, n9, q9, hsl9⟩ : Slc a9 := hx.dec.slc
 subst hsl9
 obtain ⟨p10, n10, q10, hsl10⟩ : Slc a10 := hx.exc.slc
 subst hsl10
 obtain ⟨p11, n11, q11, hsl11⟩ : Slc a11 := hx.pro.slc
 subst hsl11
 have hC := OCase.new w ⟨.slice p0 n0 q0, .slice p1 n1 q1, .slice p2 n2 q2, .slice p3 n3 q3, .slice p4 n4 q4, .slice p5 n5 q5, .slice p6 n6 q6, .slice p7 n7 q7, .slice p8 n8 q8, .slice p9 n9 q9, .slice p10 n10 q10, .slice p11 n11 q11⟩ 26
 obtain ⟨W, hW⟩ : ∃ W, ((w.alloc (.cells #[.slice p0 n0 q0, .slice p1 n1 q1, .slice p2 n2 q2, .slice p3 n3 q3, .slice p4 n4 q4, .slice p5 n5 q5, .slice p6 n6 q6, .slice p7 n7 q7, .slice p8 n8 q8, .slice p9 n9 q9, .slice p10 n10 q10, .slice p11 n11 q11] 26)).alloc (.cells nilC 26)).alloc (.cells #[.slice p0 n0 q0, .slice p1 n1 q1, .slice p2 n2 q2, .slice p3 n3 q3, .slice p4 n4 q4, .slice p5 n5 q5, .slice p6 n6 q6, .slice p7 n7 q7, .slice p8 n8 q8, .slice p9 n9 q9, .slice p10 n10 q10, .slice p11 n11 q11] 26) = W := ⟨_, rfl⟩
 simp only [tabCells] at hC
 rw [hW] at hC
 have HC := Lib.hid hC
 have HX := Lib.hid hx
 have HF := Lib.hid hf
 obtain ⟨pp, cc, he9, hin9, hl9⟩ := hx.dec
 injection he9 with e1 e2 e3
 subst e1
 subst e3
 obtain ⟨Q, hQm, hQi, hQt⟩ := mq_of hin9
 have hQl : Q.length = n9 := by rw [e2, ← hQm, List.length_map]
 have hle : n9 ≤ n := by rw [e2]; exact hf.dec
 have HQM := Lib.hid hQm
 have HQI := Lib.hid (hQi.below hC.bel)
 have HQT := Lib.hid hQt
 have HQL := Lib.hid hQl
 have ct : W.cell? ⟨w.heap.size, 9, none⟩ = some (.slice p9 n9 q9) := hC.cellT (by omega)
 clear hin9 hl9 hQm hQi hQt e2
 go_enter Tryz.func17, Tryz.ntmps17
 go_wp2_with fail
 refine (pick_at how 12 11 _ (by omega) (by omega) hk).mono ?_
 rintro e wz ⟨rfl, rfl⟩
 clear hW hC hx hf hk
 go_upto_region 28 with (first
  | (at_builtin; refine wpList_append_maps (.const (.slice none 0 0)) (.tmp 14) rfl rfl W.heap.size (.slice none 0 0) [] rfl (RowQ.nil _ _) p9 n9 q9 Q HQL.out rfl HQI.out (by have := HQL.out; simp; omega) (Nat.le_refl _) ?_; intro v1 w1 ho1 hg1; have hk1 : Keeps W w1 (fun _ => False) := keeps_g hg1; have hh1 := hk1.size)
  | (go_at_call 22; (with_reducible refine (pick_at v 2 1 _ (by omega) (by omega) hk2).mono ?_); rintro e wn ⟨rfl, rfl⟩)
  | (at_builtin; refine wpList_append_map2 (.tmp 15) (.tmp 23) rfl rfl W.heap.size v1 ([] ++ Q) rfl (World.ownsRow.alloc (World.ownsRow.alloc ho1 _) _) 131072 [131073] _ 131073 [131072] _ _ _ rfl (by simp) rfl rfl (by have := HQL.out; simp; omega) (Nat.le_trans hh1 (by simp <;> omega)) ?_; intro v3 w3 ho3 hg3; have hk3 : Keeps W w3 (fun _ => False) := keeps_two hk1 ho1 (ka3 w1 _ _ _) hg3; have hcf : w3.cell? ⟨w.heap.size + 1 + 1, 9, none⟩ = some (.slice p9 n9 q9) ∧ w3.frozen? ⟨w.heap.size + 1 + 1, 9, none⟩ = false := HC.out.cellG hk3 (by omega); obtain ⟨c3, f3⟩ := hcf; obtain ⟨pv, cv, Nv, rfl⟩ : ∃ p c N, v3 = .slice p N c := (by obtain ⟨p, c, e⟩ := RowQ.slice ho3; exact ⟨p, c, _, e⟩)))
 have hown : ∀ k, v1.ownBlock = some k → k < w1.heap.size := fun k hk => (World.ownsRow.lt ho1 k hk).2
 rw [List.nil_append] at ho3
 have hY : ∀ q ∈ [((131072, [131073]), .slice (some ⟨w1.heap.size, 0, none⟩) 1 1), ((131073, [131072]), .slice (some ⟨w1.heap.size + 1, 1, none⟩) 1 1)], NewTo W w3 q := by
  intro q hq
  simp only [List.mem_cons, List.not_mem_nil, or_false] at hq
  rcases hq with rfl | rfl
  ·exact new_to (W := W) (b := w1.heap.size) (off := 0) (((ints_cells w1 #[.int .i64 131073] 3 0 [131073] rfl (by intro k hk; have hk2 : k = 0 := (by simp at hk; omega); rcases hk2 with rfl; rfl)).alloc _).alloc _) (by simp) hg3 hown hh1 rfl
  ·exact new_to (W := W) (b := w1.heap.size + 1) (off := 1) ((ints_cells (w1.alloc (.cells #[.int .i64 131073] 3)) #[.int .i64 98, .int .i64 131072] 3 1 [131072] (by simp) (by intro k hk; have hk2 : k = 0 := (by simp at hk; omega); rcases hk2 with rfl <;> rfl)).alloc _) (by simp) hg3 (fun k hk => Nat.lt_succ_of_lt (hown k hk)) (Nat.le_succ_of_le hh1) rfl
 have HE : Hid (∃ x' T', OEnd w (w.heap.size + 1 + 1) (w.heap.size + 1) n ⟨.slice p0 n0 q0, .slice p1 n1 q1, .slice p2 n2 q2, .slice p3 n3 q3, .slice p4 n4 q4, .slice p5 n5 q5, .slice p6 n6 q6, .slice p7 n7 q7, .slice p8 n8 q8, .slice p9 n9 q9, .slice p10 n10 q10, .slice p11 n11 q11⟩ (w3.setCell ⟨w.heap.size + 1 + 1, 9, none⟩ (.slice pv Nv cv)) x' T') :=
  ⟨_, { T with dec := T.dec ++ [(131072, [131073]), (131073, [131072])] }, HC.out.fin (i := 9) (by omega) hk3 (fun wz hz => by
   have o := HC.out.oldT HX.out hk3 wz hz
   exact ⟨o.cat, o.cls, o.joi, o.bid, o.scr, o.sta, o.ign, o.ext, o.map, (by have h := HC.out.maps hk3 ho3 (Nat.le_refl _) HQT.out hY (by have := HQL.out; simp; omega) wz hz; rw [HQM.out] at h; exact h), o.exc, o.pro⟩) ⟨Nat.le_trans HF.out.cat (by omega), Nat.le_trans HF.out.cls (by omega), Nat.le_trans HF.out.joi (by omega), Nat.le_trans HF.out.bid (by omega), Nat.le_trans HF.out.scr (by omega), Nat.le_trans HF.out.sta (by omega), Nat.le_trans HF.out.ign (by omega), Nat.le_trans HF.out.ext (by omega), Nat.le_trans HF.out.map (by omega), by simp only [List.length_append, List.length_cons, List.length_nil]; have := HF.out.dec; omega, Nat.le_trans HF.out.exc (by omega), Nat.le_trans HF.out.pro (by omega)⟩ (fun _ p n c e => row_cap ho3 e)⟩
 generalize (w3.setCell ⟨w.heap.size + 1 + 1, 9, none⟩ (.slice pv Nv cv)) = wx at HE ⊢
 clear ho1 hg1 hk1 hh1 hown ho3 hg3 hk3 hY c3 f3 ct
 generalize hrb : w.heap.size + 1 = rb at HE ⊢
 generalize hgg : w.heap.size + 1 + 1 = g at HE ⊢
 obtain ⟨⟨b0, b1, b2, b3, b4, b5, b6, b7, b8, b9, b10, b11⟩, T', he⟩ := HE.out
 have htv := he.tab wx (Keeps.refl _ _)
 obtain ⟨r0, m0, c0, hsl0⟩ : Slc b0 := htv.cat.slc
 subst hsl0
 obtain ⟨r1, m1, c1, hsl1⟩ : Slc b1 := htv.cls.slc
 subst hsl1
 obtain ⟨r2, m2, c2, hsl2⟩ : Slc b2 := htv.joi.slc
 subst hsl2
 obtain ⟨r3, m3, c3, hsl3⟩ : Slc b3 := htv.bid.slc
 subst hsl3
 obtain ⟨r4, m4, c4, hsl4⟩ : Slc b4 := htv.scr.slc
 subst hsl4
 obtain ⟨r5, m5, c5, hsl5⟩ : Slc b5 := htv.sta.slc
 subst hsl5
 obtain ⟨r6, m6, c6, hsl6⟩ : Slc b6 := htv.ign.slc
 subst hsl6
 obtain ⟨r7, m7, c7, hsl7⟩ : Slc b7 := htv.ext.slc
 subst hsl7
 obtain ⟨r8, m8, c8, hsl8⟩ : Slc b8 := htv.map.slc
 subst hsl8
 obtain ⟨r9, m9, c9, hsl9⟩ : Slc b9 := htv.dec.slc
 subst hsl9
 obtain ⟨r10, m10, c10, hsl10⟩ : Slc b10 := htv.exc.slc
 subst hsl10
 obtain ⟨r11, m11, c11, hsl11⟩ : Slc b11 := htv.pro.slc
 subst hsl11
 have HEE := Lib.hid he
 obtain ⟨⟨k0, k1, k2, k3, k4, k5⟩, ⟨k6, k7, k8, k9, k10, k11⟩⟩ := he.box.load
 simp only at k0 k1 k2 k3 k4 k5 k6 k7 k8 k9 k10 k11
 obtain ⟨s0, t0⟩ := he.res 0 (by omega)
 obtain ⟨s1, t1⟩ := he.res 1 (by omega)
 obtain ⟨s2, t2⟩ := he.res 2 (by omega)
 obtain ⟨s3, t3⟩ := he.res 3 (by omega)
 obtain ⟨s4, t4⟩ := he.res 4 (by omega)
 obtain ⟨s5, t5⟩ := he.res 5 (by omega)
 obtain ⟨s6, t6⟩ := he.res 6 (by omega)
 obtain ⟨s7, t7⟩ := he.res 7 (by omega)
 obtain ⟨s8, t8⟩ := he.res 8 (by omega)
 obtain ⟨s9, t9⟩ := he.res 9 (by omega)
 obtain ⟨s10, t10⟩ := he.res 10 (by omega)
 obtain ⟨s11, t11⟩ := he.res 11 (by omega)
 have HRB : Hid (w.heap.size ≤ rb) := by unfold Hid; omega
 clear HE he htv hrb hgg
 go_wp2
 obtain ⟨hbF, hkF⟩ := store12 wx rb (.slice r0 m0 c0) (.slice r1 m1 c1) (.slice r2 m2 c2) (.slice r3 m3 c3) (.slice r4 m4 c4) (.slice r5 m5 c5) (.slice r6 m6 c6) (.slice r7 m7 c7) (.slice r8 m8 c8) (.slice r9 m9 c9) (.slice r10 m10 c10) (.slice r11 m11 c11) HEE.out.res
 generalize (World.setCell (World.setCell (World.setCell (World.setCell (World.setCell (World.setCell (World.setCell (World.setCell (World.setCell (World.setCell (World.setCell (World.setCell (wx) ⟨rb, 0, none⟩ (.slice r0 m0 c0)) ⟨rb, 1, none⟩ (.slice r1 m1 c1)) ⟨rb, 2, none⟩ (.slice r2 m2 c2)) ⟨rb, 3, none⟩ (.slice r3 m3 c3)) ⟨rb, 4, none⟩ (.slice r4 m4 c4)) ⟨rb, 5, none⟩ (.slice r5 m5 c5)) ⟨rb, 6, none⟩ (.slice r6 m6 c6)) ⟨rb, 7, none⟩ (.slice r7 m7 c7)) ⟨rb, 8, none⟩ (.slice r8 m8 c8)) ⟨rb, 9, none⟩ (.slice r9 m9 c9)) ⟨rb, 10, none⟩ (.slice r10 m10 c10)) ⟨rb, 11, none⟩ (.slice r11 m11 c11)) = WF at hbF hkF ⊢
 obtain ⟨⟨Q0, Q1, Q2, Q3, Q4, Q5⟩, ⟨Q6, Q7, Q8, Q9, Q10, Q11⟩⟩ := hbF.load
 simp only at Q0 Q1 Q2 Q3 Q4 Q5 Q6 Q7 Q8 Q9 Q10 Q11
 refine bodyPost_ret (v := .agg #[.slice r0 m0 c0, .slice r1 m1 c1, .slice r2 m2 c2, .slice r3 m3 c3, .slice r4 m4 c4, .slice r5 m5 c5, .slice r6 m6 c6, .slice r7 m7 c7, .slice r8 m8 c8, .slice r9 m9 c9, .slice r10 m10 c10, .slice r11 m11 c11]) (by simp [results, Tryz.results17, go_sem, Q0, Q1, Q2, Q3, Q4, Q5, Q6, Q7, Q8, Q9, Q10, Q11]) rfl ?_
 exact ⟨⟨.slice r0 m0 c0, .slice r1 m1 c1, .slice r2 m2 c2, .slice r3 m3 c3, .slice r4 m4 c4, .slice r5 m5 c5, .slice r6 m6 c6, .slice r7 m7 c7, .slice r8 m8 c8, .slice r9 m9 c9, .slice r10 m10 c10, .slice r11 m11 c11⟩, T', rfl, HEE.out.tab WF hkF, HEE.out.few, HEE.out.cap, HEE.out.bel.trans (hkF.below HEE.out.bel.size (fun b _ e => by have := HRB.out; omega))⟩
set_option maxRecDepth 100000 in
set_option maxHeartbeats 4000000 in
theorem other_4 (x : TV) (T : Tb) (n : Nat) (how at' v : Int) (w : World) (hx : TabV w x T) (hf : Few n T) (hn : n ≤ 1000) (hk : Hid (pickS how 12 = 4)) :
 Calls Tryz.prog 17 #[x.agg, .int .i64 how, .int .i64 at', .int .i64 v] w (OtherPost x n w) := by
 obtain ⟨a0, a1, a2, a3, a4, a5, a6, a7, a8, a9, a10, a11⟩ := x
 obtain ⟨p0, n0, q0, hsl0⟩ : Slc a0 := hx.cat.slc
 subst hsl0
 obtain ⟨p1, n1, q1, hsl1⟩ : Slc a1 := hx.cls.slc
 subst hsl1
 obtain ⟨p2, n2, q2, hsl2⟩ : Slc a2 := hx.joi.slc
 subst hsl2
 obtain ⟨p3, n3, q3, hsl3⟩ : Slc a3 := hx.bid.slc
 subst hsl3
 obtain ⟨p4, n4, q4, hsl4⟩ : Slc a4 := hx.scr.slc
 subst hsl4
 obtain ⟨p5, n5, q5, hsl5⟩ : Slc a5 := hx.sta.slc
 subst hsl5
 obtain ⟨p6, n6, q6, hsl6⟩ : Slc a6 := hx.ign.slc
 subst hsl6
 obtain ⟨p7, n7, q7, hsl7⟩ : Slc a7 := hx.ext.slc
 subst hsl7
 obtain ⟨p8, n8, q8, hsl8⟩ : Slc a8 := hx.map.slc
 subst hsl8
 obtain ⟨p9, n9, q9, hsl9⟩ : Slc a9 := hx.dec.slc
 subst hsl9
 obtain ⟨p10, n10, q10, hsl10⟩ : Slc a10 := hx.exc.slc
 subst hsl10
 obtain ⟨p11, n11, q11, hsl11⟩ : Slc a11 := hx.pro.slc
 subst hsl11
 have hC := OCase.new w ⟨.slice p0 n0 q0, .slice p1 n1 q1, .slice p2 n2 q2, .slice p3 n3 q3, .slice p4 n4 q4, .slice p5 n5 q5, .slice p6 n6 q6, .slice p7 n7 q7, .slice p8 n8 q8, .slice p9 n9 q9, .slice p10 n10 q10, .slice p11 n11 q11⟩ 26
 obtain ⟨W, hW⟩ : ∃ W, ((w.alloc (.cells #[.slice p0 n0 q0, .slice p1 n1 q1, .slice p2 n2 q2, .slice p3 n3 q3, .slice p4 n4 q4, .slice p5 n5 q5, .slice p6 n6 q6, .slice p7 n7 q7, .slice p8 n8 q8, .slice p9 n9 q9, .slice p10 n10 q10, .slice p11 n11 q11] 26)).alloc (.cells nilC 26)).alloc (.cells #[.slice p0 n0 q0, .slice p1 n1 q1, .slice p2 n2 q2, .slice p3 n3 q3, .slice p4 n4 q4, .slice p5 n5 q5, .slice p6 n6 q6, .slice p7 n7 q7, .slice p8 n8 q8, .slice p9 n9 q9, .slice p10 n10 q10, .slice p11 n11 q11] 26) = W := ⟨_, rfl⟩
 simp only [tabCells] at hC
 rw [hW] at hC
 have HC := Lib.hid hC
 have HX := Lib.hid hx
 have HF := Lib.hid hf
 obtain ⟨pp, cc, he9, hin9, hl9⟩ := hx.dec
 injection he9 with e1 e2 e3
 subst e1
 subst e3
 obtain ⟨Q, hQm, hQi, hQt⟩ := mq_of hin9
 have hQl : Q.length = n9 := by rw [e2, ← hQm, List.length_map]
 have hle : n9 ≤ n := by rw [e2]; exact hf.dec
 have HQM := Lib.hid hQm
 have HQI := Lib.hid (hQi.below hC.bel)
 have HQT := Lib.hid hQt
 have HQL := Lib.hid hQl
 have ct : W.cell? ⟨w.heap.size, 9, none⟩ = some (.slice p9 n9 q9) := hC.cellT (by omega)
 clear hin9 hl9 hQm hQi hQt e2
 obtain ⟨z0, HZ0, hz0, hz1⟩ := pick_nm v 6 (by omega)
 obtain ⟨z, rfl⟩ : ∃ z : Nat, z0 = z := ⟨z0.toNat, by omega⟩
 obtain ⟨y, hy⟩ : ∃ y, ([131072, 46, 44032, 4449, 55296, 97] : List Int).getD z 0 = y := ⟨_, rfl⟩
 have HYC : Hid (∀ W1 : World, (W1.alloc (.cells #[.int .i64 131072, .int .i64 46, .int .i64 44032, .int .i64 4449, .int .i64 55296, .int .i64 97] 3)).cell? ⟨W1.heap.size, z, none⟩ = some (.int .i64 y)) := by
  intro W1
  have hz : z = 0 ∨ z = 1 ∨ z = 2 ∨ z = 3 ∨ z = 4 ∨ z = 5 := by omega
  rw [← hy]
  rcases hz with rfl | rfl | rfl | rfl | rfl | rfl <;> simp [World.cell?_alloc_new]
 clear hy
 go_enter Tryz.func17, Tryz.ntmps17
 go_wp2_with fail
 refine (pick_at how 12 4 _ (by omega) (by omega) hk).mono ?_
 rintro e wz ⟨rfl, rfl⟩
 clear hW hC hx hf hk
 go_upto_region 28 with (first
  | (at_builtin; refine wpList_append_maps (.const (.slice none 0 0)) (.tmp 85) rfl rfl W.heap.size (.slice none 0 0) [] rfl (RowQ.nil _ _) p9 n9 q9 Q HQL.out rfl HQI.out (by have := HQL.out; simp; omega) (Nat.le_refl _) ?_; intro v1 w1 ho1 hg1; have hk1 : Keeps W w1 (fun _ => False) := keeps_g hg1; have hh1 := hk1.size; have y1 : (w1.alloc (.cells #[.int .i64 131072, .int .i64 46, .int .i64 44032, .int .i64 4449, .int .i64 55296, .int .i64 97] 3)).cell? ⟨w1.heap.size, z, none⟩ = some (.int .i64 y) := HYC.out w1)
  | (go_at_call 22; (with_reducible refine (pick_at v 6 z _ (by omega) (by omega) HZ0).mono ?_); rintro e wn ⟨rfl, rfl⟩)
  | (at_builtin; refine wpList_append_map1 (.tmp 86) (.tmp 94) rfl rfl W.heap.size v1 ([] ++ Q) rfl (World.ownsRow.alloc (World.ownsRow.alloc ho1 _) _) 131072 [y] _ _ _ rfl (by simp) rfl (by have := HQL.out; simp; omega) (Nat.le_trans hh1 (by simp <;> omega)) ?_; intro v3 w3 ho3 hg3; have hk3 : Keeps W w3 (fun _ => False) := keeps_two hk1 ho1 (ka3 w1 _ _ _) hg3; have hcf : w3.cell? ⟨w.heap.size + 1 + 1, 9, none⟩ = some (.slice p9 n9 q9) ∧ w3.frozen? ⟨w.heap.size + 1 + 1, 9, none⟩ = false := HC.out.cellG hk3 (by omega); obtain ⟨c3, f3⟩ := hcf; obtain ⟨pv, cv, Nv, rfl⟩ : ∃ p c N, v3 = .slice p N c := (by obtain ⟨p, c, e⟩ := RowQ.slice ho3; exact ⟨p, c, _, e⟩)))
 have hown : ∀ k, v1.ownBlock = some k → k < w1.heap.size := fun k hk => (World.ownsRow.lt ho1 k hk).2
 rw [List.nil_append] at ho3
 have hY : ∀ q ∈ [((131072, [y]), .slice (some ⟨w1.heap.size + 1, 0, none⟩) 1 1)], NewTo W w3 q := by
  intro q hq
  simp only [List.mem_cons, List.not_mem_nil, or_false] at hq
  subst hq
  exact new_to (W := W) (b := w1.heap.size + 1) (off := 0) ((ints_cells (w1.alloc (.cells #[.int .i64 131072, .int .i64 46, .int .i64 44032, .int .i64 4449, .int .i64 55296, .int .i64 97] 3)) #[.int .i64 y] 3 0 [y] (by simp) (by intro k hk; have hk2 : k = 0 := (by simp at hk; omega); rcases hk2 with rfl <;> rfl)).alloc _) (by simp) hg3 (fun k hk => Nat.lt_succ_of_lt (hown k hk)) (Nat.le_succ_of_le hh1) rfl
 have HE : Hid (∃ x' T', OEnd w (w.heap.size + 1 + 1) (w.heap.size + 1) n ⟨.slice p0 n0 q0, .slice p1 n1 q1, .slice p2 n2 q2, .slice p3 n3 q3, .slice p4 n4 q4, .slice p5 n5 q5, .slice p6 n6 q6, .slice p7 n7 q7, .slice p8 n8 q8, .slice p9 n9 q9, .slice p10 n10 q10, .slice p11 n11 q11⟩ (w3.setCell ⟨w.heap.size + 1 + 1, 9, none⟩ (.slice pv Nv cv)) x' T') :=
  ⟨_, { T with dec := T.dec ++ [(131072, [y])] }, HC.out.fin (i := 9) (by omega) hk3 (fun wz hz => by
   have o := HC.out.oldT HX.out hk3 wz hz
   exact ⟨o.cat, o.cls, o.joi, o.bid, o.scr, o.sta, o.ign, o.ext, o.map, (by have h := HC.out.maps hk3 ho3 (Nat.le_refl _) HQT.out hY (by have := HQL.out; simp; omega) wz hz; rw [HQM.out] at h; exact h), o.exc, o.pro⟩) ⟨Nat.le_trans HF.out.cat (by omega), Nat.le_trans HF.out.cls (by omega), Nat.le_trans HF.out.joi (by omega), Nat.le_trans HF.out.bid (by omega), Nat.le_trans HF.out.scr (by omega), Nat.le_trans HF.out.sta (by omega), Nat.le_trans HF.out.ign (by omega), Nat.le_trans HF.out.ext (by omega), Nat.le_trans HF.out.map (by omega), by simp only [List.length_append, List.length_cons, List.length_nil]; have := HF.out.dec; omega, Nat.le_trans HF.out.exc (by omega), Nat.le_trans HF.out.pro (by omega)⟩ (fun _ p n c e => row_cap ho3 e)⟩
 generalize (w3.setCell ⟨w.heap.size + 1 + 1, 9, none⟩ (.slice pv Nv cv)) = wx at HE ⊢
 clear ho1 hg1 hk1 hh1 hown ho3 hg3 hk3 hY c3 f3 ct
 generalize hrb : w.heap.size + 1 = rb at HE ⊢
 generalize hgg : w.heap.size + 1 + 1 = g at HE ⊢
 obtain ⟨⟨b0, b1, b2, b3, b4, b5, b6, b7, b8, b9, b10, b11⟩, T', he⟩ := HE.out
 have htv := he.tab wx (Keeps.refl _ _)
 obtain ⟨r0, m0, c0, hsl0⟩ : Slc b0 := htv.cat.slc
 subst hsl0
 obtain ⟨r1, m1, c1, hsl1⟩ : Slc b1 := htv.cls.slc
 subst hsl1
 obtain ⟨r2, m2, c2, hsl2⟩ : Slc b2 := htv.joi.slc
 subst hsl2
 obtain ⟨r3, m3, c3, hsl3⟩ : Slc b3 := htv.bid.slc
 subst hsl3
 obtain ⟨r4, m4, c4, hsl4⟩ : Slc b4 := htv.scr.slc
 subst hsl4
 obtain ⟨r5, m5, c5, hsl5⟩ : Slc b5 := htv.sta.slc
 subst hsl5
 obtain ⟨r6, m6, c6, hsl6⟩ : Slc b6 := htv.ign.slc
 subst hsl6
 obtain ⟨r7, m7, c7, hsl7⟩ : Slc b7 := htv.ext.slc
 subst hsl7
 obtain ⟨r8, m8, c8, hsl8⟩ : Slc b8 := htv.map.slc
 subst hsl8
 obtain ⟨r9, m9, c9, hsl9⟩ : Slc b9 := htv.dec.slc
 subst hsl9
 obtain ⟨r10, m10, c10, hsl10⟩ : Slc b10 := htv.exc.slc
 subst hsl10
 obtain ⟨r11, m11, c11, hsl11⟩ : Slc b11 := htv.pro.slc
 subst hsl11
 have HEE := Lib.hid he
 obtain ⟨⟨k0, k1, k2, k3, k4, k5⟩, ⟨k6, k7, k8, k9, k10, k11⟩⟩ := he.box.load
 simp only at k0 k1 k2 k3 k4 k5 k6 k7 k8 k9 k10 k11
 obtain ⟨s0, t0⟩ := he.res 0 (by omega)
 obtain ⟨s1, t1⟩ := he.res 1 (by omega)
 obtain ⟨s2, t2⟩ := he.res 2 (by omega)
 obtain ⟨s3, t3⟩ := he.res 3 (by omega)
 obtain ⟨s4, t4⟩ := he.res 4 (by omega)
 obtain ⟨s5, t5⟩ := he.res 5 (by omega)
 obtain ⟨s6, t6⟩ := he.res 6 (by omega)
 obtain ⟨s7, t7⟩ := he.res 7 (by omega)
 obtain ⟨s8, t8⟩ := he.res 8 (by omega)
 obtain ⟨s9, t9⟩ := he.res 9 (by omega)
 obtain ⟨s10, t10⟩ := he.res 10 (by omega)
 obtain ⟨s11, t11⟩ := he.res 11 (by omega)
 have HRB : Hid (w.heap.size ≤ rb) := by unfold Hid; omega
 clear HE he htv hrb hgg
 go_wp2
 obtain ⟨hbF, hkF⟩ := store12 wx rb (.slice r0 m0 c0) (.slice r1 m1 c1) (.slice r2 m2 c2) (.slice r3 m3 c3) (.slice r4 m4 c4) (.slice r5 m5 c5) (.slice r6 m6 c6) (.slice r7 m7 c7) (.slice r8 m8 c8) (.slice r9 m9 c9) (.slice r10 m10 c10) (.slice r11 m11 c11) HEE.out.res
 generalize (World.setCell (World.setCell (World.setCell (World.setCell (World.setCell (World.setCell (World.setCell (World.setCell (World.setCell (World.setCell (World.setCell (World.setCell (wx) ⟨rb, 0, none⟩ (.slice r0 m0 c0)) ⟨rb, 1, none⟩ (.slice r1 m1 c1)) ⟨rb, 2, none⟩ (.slice r2 m2 c2)) ⟨rb, 3, none⟩ (.slice r3 m3 c3)) ⟨rb, 4, none⟩ (.slice r4 m4 c4)) ⟨rb, 5, none⟩ (.slice r5 m5 c5)) ⟨rb, 6, none⟩ (.slice r6 m6 c6)) ⟨rb, 7, none⟩ (.slice r7 m7 c7)) ⟨rb, 8, none⟩ (.slice r8 m8 c8)) ⟨rb, 9, none⟩ (.slice r9 m9 c9)) ⟨rb, 10, none⟩ (.slice r10 m10 c10)) ⟨rb, 11, none⟩ (.slice r11 m11 c11)) = WF at hbF hkF ⊢
 obtain ⟨⟨Q0, Q1, Q2, Q3, Q4, Q5⟩, ⟨Q6, Q7, Q8, Q9, Q10, Q11⟩⟩ := hbF.load
 simp only at Q0 Q1 Q2 Q3 Q4 Q5 Q6 Q7 Q8 Q9 Q10 Q11
 refine bodyPost_ret (v := .agg #[.slice r0 m0 c0, .slice r1 m1 c1, .slice r2 m2 c2, .slice r3 m3 c3, .slice r4 m4 c4, .slice r5 m5 c5, .slice r6 m6 c6, .slice r7 m7 c7, .slice r8 m8 c8, .slice r9 m9 c9, .slice r10 m10 c10, .slice r11 m11 c11]) (by simp [results, Tryz.results17, go_sem, Q0, Q1, Q2, Q3, Q4, Q5, Q6, Q7, Q8, Q9, Q10, Q11]) rfl ?_
 exact ⟨⟨.slice r0 m0 c0, .slice r1 m1 c1, .slice r2 m2 c2, .slice r3 m3 c3, .slice r4 m4 c4, .slice r5 m5 c5, .slice r6 m6 c6, .slice r7 m7 c7, .slice r8 m8 c8, .slice r9 m9 c9, .slice r10 m10 c10, .slice r11 m11 c11⟩, T', rfl, HEE.out.tab WF hkF, HEE.out.few, HEE.out.cap, HEE.out.bel.trans (hkF.below HEE.out.bel.size (fun b _ e => by have := HRB.out; omega))⟩
set_option maxRecDepth 100000 in
set_option maxHeartbeats 4000000 in
theorem other_6 (x : TV) (T : Tb) (n : Nat) (how at' v : Int) (w : World) (hx : TabV w x T) (hf : Few n T) (hn : n ≤ 1000) (hk : Hid (pickS how 12 = 6)) :
 Calls Tryz.prog 17 #[x.agg, .int .i64 how, .int .i64 at', .int .i64 v] w (OtherPost x n w) := by
 obtain ⟨a0, a1, a2, a3, a4, a5, a6, a7, a8, a9, a10, a11⟩ := x
 obtain ⟨p0, n0, q0, hsl0⟩ : Slc a0 := hx.cat.slc
 subst hsl0
 obtain ⟨p1, n1, q1, hsl1⟩ : Slc a1 := hx.cls.slc
 subst hsl1
 obtain ⟨p2, n2, q2, hsl2⟩ : Slc a2 := hx.joi.slc
 subst hsl2
 obtain ⟨p3, n3, q3, hsl3⟩ : Slc a3 := hx.bid.slc
 subst hsl3
 obtain ⟨p4, n4, q4, hsl4⟩ : Slc a4 := hx.scr.slc
 subst hsl4
 obtain ⟨p5, n5, q5, hsl5⟩ : Slc a5 := hx.sta.slc
 subst hsl5
 obtain ⟨p6, n6, q6, hsl6⟩ : Slc a6 := hx.ign.slc
 subst hsl6
 obtain ⟨p7, n7, q7, hsl7⟩ : Slc a7 := hx.ext.slc
 subst hsl7
 obtain ⟨p8, n8, q8, hsl8⟩ : Slc a8 := hx.map.slc
 subst hsl8
 obtain ⟨p9, n9, q9, hsl9⟩ : Slc a9 := hx.dec.slc
 subst hsl9
 obtain ⟨p10, n10, q10, hsl10⟩ : Slc a10 := hx.exc.slc
 subst hsl10
 obtain ⟨p11, n11, q11, hsl11⟩ : Slc a11 := hx.pro.slc
 subst hsl11
 have hC := OCase.new w ⟨.slice p0 n0 q0, .slice p1 n1 q1, .slice p2 n2 q2, .slice p3 n3 q3, .slice p4 n4 q4, .slice p5 n5 q5, .slice p6 n6 q6, .slice p7 n7 q7, .slice p8 n8 q8, .slice p9 n9 q9, .slice p10 n10 q10, .slice p11 n11 q11⟩ 26
 obtain ⟨W, hW⟩ : ∃ W, ((w.alloc (.cells #[.slice p0 n0 q0, .slice p1 n1 q1, .slice p2 n2 q2, .slice p3 n3 q3, .slice p4 n4 q4, .slice p5 n5 q5, .slice p6 n6 q6, .slice p7 n7 q7, .slice p8 n8 q8, .slice p9 n9 q9, .slice p10 n10 q10, .slice p11 n11 q11] 26)).alloc (.cells nilC 26)).alloc (.cells #[.slice p0 n0 q0, .slice p1 n1 q1, .slice p2 n2 q2, .slice p3 n3 q3, .slice p4 n4 q4, .slice p5 n5 q5, .slice p6 n6 q6, .slice p7 n7 q7, .slice p8 n8 q8, .slice p9 n9 q9, .slice p10 n10 q10, .slice p11 n11 q11] 26) = W := ⟨_, rfl⟩
 simp only [tabCells] at hC
 rw [hW] at hC
 have HC := Lib.hid hC
 have HX := Lib.hid hx
 have HF := Lib.hid hf
 obtain ⟨pp, cc, he11, hin11, hl11⟩ := hx.pro
 injection he11 with e1 e2 e3
 subst e1
 subst e3
 obtain ⟨Q, hQm, hQi, hQt⟩ := mq_of hin11
 have hQl : Q.length = n11 := by rw [e2, ← hQm, List.length_map]
 have hle : n11 ≤ n := by rw [e2]; exact hf.pro
 have HQM := Lib.hid hQm
 have HQI := Lib.hid (hQi.below hC.bel)
 have HQT := Lib.hid hQt
 have HQL := Lib.hid hQl
 have ct : W.cell? ⟨w.heap.size, 11, none⟩ = some (.slice p11 n11 q11) := hC.cellT (by omega)
 clear hin11 hl11 hQm hQi hQt e2
 obtain ⟨z0, HZ0, hz0, hz1⟩ := pick_nm v 6 (by omega)
 obtain ⟨z, rfl⟩ : ∃ z : Nat, z0 = z := ⟨z0.toNat, by omega⟩
 obtain ⟨y, hy⟩ : ∃ y, ([7680, 109, 44032, 131072, 122, 173] : List Int).getD z 0 = y := ⟨_, rfl⟩
 have HYC : Hid (∀ W1 : World, (W1.alloc (.cells #[.int .i64 7680, .int .i64 109, .int .i64 44032, .int .i64 131072, .int .i64 122, .int .i64 173] 3)).cell? ⟨W1.heap.size, z, none⟩ = some (.int .i64 y)) := by
  intro W1
  have hz : z = 0 ∨ z = 1 ∨ z = 2 ∨ z = 3 ∨ z = 4 ∨ z = 5 := by omega
  rw [← hy]
  rcases hz with rfl | rfl | rfl | rfl | rfl | rfl <;> simp [World.cell?_alloc_new]
 clear hy
 go_enter Tryz.func17, Tryz.ntmps17
 go_wp2_with fail
 refine (pick_at how 12 6 _ (by omega) (by omega) hk).mono ?_
 rintro e wz ⟨rfl, rfl⟩
 clear hW hC hx hf hk
 go_upto_region 28 with (first
  | (at_builtin; refine wpList_append_maps (.const (.slice none 0 0)) (.tmp 113) rfl rfl W.heap.size (.slice none 0 0) [] rfl (RowQ.nil _ _) p11 n11 q11 Q HQL.out rfl HQI.out (by have := HQL.out; simp; omega) (Nat.le_refl _) ?_; intro v1 w1 ho1 hg1; have hk1 : Keeps W w1 (fun _ => False) := keeps_g hg1; have hh1 := hk1.size; have y1 : (w1.alloc (.cells #[.int .i64 7680, .int .i64 109, .int .i64 44032, .int .i64 131072, .int .i64 122, .int .i64 173] 3)).cell? ⟨w1.heap.size, z, none⟩ = some (.int .i64 y) := HYC.out w1)
  | (go_at_call 22; (with_reducible refine (pick_at v 6 z _ (by omega) (by omega) HZ0).mono ?_); rintro e wn ⟨rfl, rfl⟩)
  | (at_builtin; refine wpList_append_map1 (.tmp 114) (.tmp 122) rfl rfl W.heap.size v1 ([] ++ Q) rfl (World.ownsRow.alloc (World.ownsRow.alloc ho1 _) _) 131072 [y] _ _ _ rfl (by simp) rfl (by have := HQL.out; simp; omega) (Nat.le_trans hh1 (by simp <;> omega)) ?_; intro v3 w3 ho3 hg3; have hk3 : Keeps W w3 (fun _ => False) := keeps_two hk1 ho1 (ka3 w1 _ _ _) hg3; have hcf : w3.cell? ⟨w.heap.size + 1 + 1, 11, none⟩ = some (.slice p11 n11 q11) ∧ w3.frozen? ⟨w.heap.size + 1 + 1, 11, none⟩ = false := HC.out.cellG hk3 (by omega); obtain ⟨c3, f3⟩ := hcf; obtain ⟨pv, cv, Nv, rfl⟩ : ∃ p c N, v3 = .slice p N c := (by obtain ⟨p, c, e⟩ := RowQ.slice ho3; exact ⟨p, c, _, e⟩)))
 have hown : ∀ k, v1.ownBlock = some k → k < w1.heap.size := fun k hk => (World.ownsRow.lt ho1 k hk).2
 rw [List.nil_append] at ho3
 have hY : ∀ q ∈ [((131072, [y]), .slice (some ⟨w1.heap.size + 1, 0, none⟩) 1 1)], NewTo W w3 q := by
  intro q hq
  simp only [List.mem_cons, List.not_mem_nil, or_false] at hq
  subst hq
  exact new_to (W := W) (b := w1.heap.size + 1) (off := 0) ((ints_cells (w1.alloc (.cells #[.int .i64 7680, .int .i64 109, .int .i64 44032, .int .i64 131072, .int .i64 122, .int .i64 173] 3)) #[.int .i64 y] 3 0 [y] (by simp) (by intro k hk; have hk2 : k = 0 := (by simp at hk; omega); rcases hk2 with rfl <;> rfl)).alloc _) (by simp) hg3 (fun k hk => Nat.lt_succ_of_lt (hown k hk)) (Nat.le_succ_of_le hh1) rfl
 have HE : Hid (∃ x' T', OEnd w (w.heap.size + 1 + 1) (w.heap.size + 1) n ⟨.slice p0 n0 q0, .slice p1 n1 q1, .slice p2 n2 q2, .slice p3 n3 q3, .slice p4 n4 q4, .slice p5 n5 q5, .slice p6 n6 q6, .slice p7 n7 q7, .slice p8 n8 q8, .slice p9 n9 q9, .slice p10 n10 q10, .slice p11 n11 q11⟩ (w3.setCell ⟨w.heap.size + 1 + 1, 11, none⟩ (.slice pv Nv cv)) x' T') :=
  ⟨_, { T with pro := T.pro ++ [(131072, [y])] }, HC.out.fin (i := 11) (by omega) hk3 (fun wz hz => by
   have o := HC.out.oldT HX.out hk3 wz hz
   exact ⟨o.cat, o.cls, o.joi, o.bid, o.scr, o.sta, o.ign, o.ext, o.map, o.dec, o.exc, (by have h := HC.out.maps hk3 ho3 (Nat.le_refl _) HQT.out hY (by have := HQL.out; simp; omega) wz hz; rw [HQM.out] at h; exact h)⟩) ⟨Nat.le_trans HF.out.cat (by omega), Nat.le_trans HF.out.cls (by omega), Nat.le_trans HF.out.joi (by omega), Nat.le_trans HF.out.bid (by omega), Nat.le_trans HF.out.scr (by omega), Nat.le_trans HF.out.sta (by omega), Nat.le_trans HF.out.ign (by omega), Nat.le_trans HF.out.ext (by omega), Nat.le_trans HF.out.map (by omega), Nat.le_trans HF.out.dec (by omega), Nat.le_trans HF.out.exc (by omega), by simp only [List.length_append, List.length_cons, List.length_nil]; have := HF.out.pro; omega⟩ (fun h p n c e => h p n c e)⟩
 generalize (w3.setCell ⟨w.heap.size + 1 + 1, 11, none⟩ (.slice pv Nv cv)) = wx at HE ⊢
 clear ho1 hg1 hk1 hh1 hown ho3 hg3 hk3 hY c3 f3 ct
 generalize hrb : w.heap.size + 1 = rb at HE ⊢
 generalize hgg : w.heap.size + 1 + 1 = g at HE ⊢
 obtain ⟨⟨b0, b1, b2, b3, b4, b5, b6, b7, b8, b9, b10, b11⟩, T', he⟩ := HE.out
 have htv := he.tab wx (Keeps.refl _ _)
 obtain ⟨r0, m0, c0, hsl0⟩ : Slc b0 := htv.cat.slc
 subst hsl0
 obtain ⟨r1, m1, c1, hsl1⟩ : Slc b1 := htv.cls.slc
 subst hsl1
 obtain ⟨r2, m2, c2, hsl2⟩ : Slc b2 := htv.joi.slc
 subst hsl2
 obtain ⟨r3, m3, c3, hsl3⟩ : Slc b3 := htv.bid.slc
 subst hsl3
 obtain ⟨r4, m4, c4, hsl4⟩ : Slc b4 := htv.scr.slc
 subst hsl4
 obtain ⟨r5, m5, c5, hsl5⟩ : Slc b5 := htv.sta.slc
 subst hsl5
 obtain ⟨r6, m6, c6, hsl6⟩ : Slc b6 := htv.ign.slc
 subst hsl6
 obtain ⟨r7, m7, c7, hsl7⟩ : Slc b7 := htv.ext.slc
 subst hsl7
 obtain ⟨r8, m8, c8, hsl8⟩ : Slc b8 := htv.map.slc
 subst hsl8
 obtain ⟨r9, m9, c9, hsl9⟩ : Slc b9 := htv.dec.slc
 subst hsl9
 obtain ⟨r10, m10, c10, hsl10⟩ : Slc b10 := htv.exc.slc
 subst hsl10
 obtain ⟨r11, m11, c11, hsl11⟩ : Slc b11 := htv.pro.slc
 subst hsl11
 have HEE := Lib.hid he
 obtain ⟨⟨k0, k1, k2, k3, k4, k5⟩, ⟨k6, k7, k8, k9, k10, k11⟩⟩ := he.box.load
 simp only at k0 k1 k2 k3 k4 k5 k6 k7 k8 k9 k10 k11
 obtain ⟨s0, t0⟩ := he.res 0 (by omega)
 obtain ⟨s1, t1⟩ := he.res 1 (by omega)
 obtain ⟨s2, t2⟩ := he.res 2 (by omega)
 obtain ⟨s3, t3⟩ := he.res 3 (by omega)
 obtain ⟨s4, t4⟩ := he.res 4 (by omega)
 obtain ⟨s5, t5⟩ := he.res 5 (by omega)
 obtain ⟨s6, t6⟩ := he.res 6 (by omega)
 obtain ⟨s7, t7⟩ := he.res 7 (by omega)
 obtain ⟨s8, t8⟩ := he.res 8 (by omega)
 obtain ⟨s9, t9⟩ := he.res 9 (by omega)
 obtain ⟨s10, t10⟩ := he.res 10 (by omega)
 obtain ⟨s11, t11⟩ := he.res 11 (by omega)
 have HRB : Hid (w.heap.size ≤ rb) := by unfold Hid; omega
 clear HE he htv hrb hgg
 go_wp2
 obtain ⟨hbF, hkF⟩ := store12 wx rb (.slice r0 m0 c0) (.slice r1 m1 c1) (.slice r2 m2 c2) (.slice r3 m3 c3) (.slice r4 m4 c4) (.slice r5 m5 c5) (.slice r6 m6 c6) (.slice r7 m7 c7) (.slice r8 m8 c8) (.slice r9 m9 c9) (.slice r10 m10 c10) (.slice r11 m11 c11) HEE.out.res
 generalize (World.setCell (World.setCell (World.setCell (World.setCell (World.setCell (World.setCell (World.setCell (World.setCell (World.setCell (World.setCell (World.setCell (World.setCell (wx) ⟨rb, 0, none⟩ (.slice r0 m0 c0)) ⟨rb, 1, none⟩ (.slice r1 m1 c1)) ⟨rb, 2, none⟩ (.slice r2 m2 c2)) ⟨rb, 3, none⟩ (.slice r3 m3 c3)) ⟨rb, 4, none⟩ (.slice r4 m4 c4)) ⟨rb, 5, none⟩ (.slice r5 m5 c5)) ⟨rb, 6, none⟩ (.slice r6 m6 c6)) ⟨rb, 7, none⟩ (.slice r7 m7 c7)) ⟨rb, 8, none⟩ (.slice r8 m8 c8)) ⟨rb, 9, none⟩ (.slice r9 m9 c9)) ⟨rb, 10, none⟩ (.slice r10 m10 c10)) ⟨rb, 11, none⟩ (.slice r11 m11 c11)) = WF at hbF hkF ⊢
 obtain ⟨⟨Q0, Q1, Q2, Q3, Q4, Q5⟩, ⟨Q6, Q7, Q8, Q9, Q10, Q11⟩⟩ := hbF.load
 simp only at Q0 Q1 Q2 Q3 Q4 Q5 Q6 Q7 Q8 Q9 Q10 Q11
 refine bodyPost_ret (v := .agg #[.slice r0 m0 c0, .slice r1 m1 c1, .slice r2 m2 c2, .slice r3 m3 c3, .slice r4 m4 c4, .slice r5 m5 c5, .slice r6 m6 c6, .slice r7 m7 c7, .slice r8 m8 c8, .slice r9 m9 c9, .slice r10 m10 c10, .slice r11 m11 c11]) (by simp [results, Tryz.results17, go_sem, Q0, Q1, Q2, Q3, Q4, Q5, Q6, Q7, Q8, Q9, Q10, Q11]) rfl ?_
 exact ⟨⟨.slice r0 m0 c0, .slice r1 m1 c1, .slice r2 m2 c2, .slice r3 m3 c3, .slice r4 m4 c4, .slice r5 m5 c5, .slice r6 m6 c6, .slice r7 m7 c7, .slice r8 m8 c8, .slice r9 m9 c9, .slice r10 m10 c10, .slice r11 m11 c11⟩, T', rfl, HEE.out.tab WF hkF, HEE.out.few, HEE.out.cap, HEE.out.bel.trans (hkF.below HEE.out.bel.size (fun b _ e => by have := HRB.out; omega))⟩
set_option maxRecDepth 100000 in
set_option maxHeartbeats 4000000 in
theorem other_8 (x : TV) (T : Tb) (n : Nat) (how at' v : Int) (w : World) (hx : TabV w x T) (hf : Few n T) (hn : n ≤ 1000) (hk : Hid (pickS how 12 = 8)) :
 Calls Tryz.prog 17 #[x.agg, .int .i64 how, .int .i64 at', .int .i64 v] w (OtherPost x n w) := by
 obtain ⟨a0, a1, a2, a3, a4, a5, a6, a7, a8, a9, a10, a11⟩ := x
 obtain ⟨p0, n0, q0, hsl0⟩ : Slc a0 := hx.cat.slc
 subst hsl0
 obtain ⟨p1, n1, q1, hsl1⟩ : Slc a1 := hx.cls.slc
 subst hsl1
 obtain ⟨p2, n2, q2, hsl2⟩ : Slc a2 := hx.joi.slc
 subst hsl2
 obtain ⟨p3, n3, q3, hsl3⟩ : Slc a3 := hx.bid.slc
 subst hsl3
 obtain ⟨p4, n4, q4, hsl4⟩ : Slc a4 := hx.scr.slc
 subst hsl4
 obtain ⟨p5, n5, q5, hsl5⟩ : Slc a5 := hx.sta.slc
 subst hsl5
 obtain ⟨p6, n6, q6, hsl6⟩ : Slc a6 := hx.ign.slc
 subst hsl6
 obtain ⟨p7, n7, q7, hsl7⟩ : Slc a7 := hx.ext.slc
 subst hsl7
 obtain ⟨p8, n8, q8, hsl8⟩ : Slc a8 := hx.map.slc
 subst hsl8
 obtain ⟨p9, n9, q9, hsl9⟩ : Slc a9 := hx.dec.slc
 subst hsl9
 obtain ⟨p10, n10, q10, hsl10⟩ : Slc a10 := hx.exc.slc
 subst hsl10
 obtain ⟨p11, n11, q11, hsl11⟩ : Slc a11 := hx.pro.slc
 subst hsl11
 have hC := OCase.new w ⟨.slice p0 n0 q0, .slice p1 n1 q1, .slice p2 n2 q2, .slice p3 n3 q3, .slice p4 n4 q4, .slice p5 n5 q5, .slice p6 n6 q6, .slice p7 n7 q7, .slice p8 n8 q8, .slice p9 n9 q9, .slice p10 n10 q10, .slice p11 n11 q11⟩ 26
 obtain ⟨W, hW⟩ : ∃ W, ((w.alloc (.cells #[.slice p0 n0 q0, .slice p1 n1 q1, .slice p2 n2 q2, .slice p3 n3 q3, .slice p4 n4 q4, .slice p5 n5 q5, .slice p6 n6 q6, .slice p7 n7 q7, .slice p8 n8 q8, .slice p9 n9 q9, .slice p10 n10 q10, .slice p11 n11 q11] 26)).alloc (.cells nilC 26)).alloc (.cells #[.slice p0 n0 q0, .slice p1 n1 q1, .slice p2 n2 q2, .slice p3 n3 q3, .slice p4 n4 q4, .slice p5 n5 q5, .slice p6 n6 q6, .slice p7 n7 q7, .slice p8 n8 q8, .slice p9 n9 q9, .slice p10 n10 q10, .slice p11 n11 q11] 26) = W := ⟨_, rfl⟩
 simp only [tabCells] at hC
 rw [hW] at hC
 have HC := Lib.hid hC
 have HX := Lib.hid hx
 have HF := Lib.hid hf
 obtain ⟨pp, cc, he7, hin7, hl7⟩ := hx.ext
 injection he7 with e1 e2 e3
 subst e1
 subst e3
 obtain ⟨Q, hQm, hQi, hQt⟩ := mq_of hin7
 have hQl : Q.length = n7 := by rw [e2, ← hQm, List.length_map]
 have hle : n7 ≤ n := by rw [e2]; exact hf.ext
 have HQM := Lib.hid hQm
 have HQI := Lib.hid (hQi.below hC.bel)
 have HQT := Lib.hid hQt
 have HQL := Lib.hid hQl
 have ct : W.cell? ⟨w.heap.size, 7, none⟩ = some (.slice p7 n7 q7) := hC.cellT (by omega)
 clear hin7 hl7 hQm hQi hQt e2
 obtain ⟨z0, HZ0, hz0, hz1⟩ := pick_nm v 5 (by omega)
 obtain ⟨z, rfl⟩ : ∃ z : Nat, z0 = z := ⟨z0.toNat, by omega⟩
 obtain ⟨y, hy⟩ : ∃ y, ([2, 3, 4, 60, 61] : List Int).getD z 0 = y := ⟨_, rfl⟩
 have HYC : Hid (∀ W1 : World, (W1.alloc (.cells #[.int .i64 2, .int .i64 3, .int .i64 4, .int .i64 60, .int .i64 61] 3)).cell? ⟨W1.heap.size, z, none⟩ = some (.int .i64 y)) := by
  intro W1
  have hz : z = 0 ∨ z = 1 ∨ z = 2 ∨ z = 3 ∨ z = 4 := by omega
  rw [← hy]
  rcases hz with rfl | rfl | rfl | rfl | rfl <;> simp [World.cell?_alloc_new]
 clear hy
 go_enter Tryz.func17, Tryz.ntmps17
 go_wp2_with fail
 refine (pick_at how 12 8 _ (by omega) (by omega) hk).mono ?_
 rintro e wz ⟨rfl, rfl⟩
 clear hW hC hx hf hk
 go_upto_region 28 with (first
  | (at_builtin; refine wpList_append_maps (.const (.slice none 0 0)) (.tmp 138) rfl rfl W.heap.size (.slice none 0 0) [] rfl (RowQ.nil _ _) p7 n7 q7 Q HQL.out rfl HQI.out (by have := HQL.out; simp; omega) (Nat.le_refl _) ?_; intro v1 w1 ho1 hg1; have hk1 : Keeps W w1 (fun _ => False) := keeps_g hg1; have hh1 := hk1.size; have y1 : (w1.alloc (.cells #[.int .i64 2, .int .i64 3, .int .i64 4, .int .i64 60, .int .i64 61] 3)).cell? ⟨w1.heap.size, z, none⟩ = some (.int .i64 y) := HYC.out w1)
  | (go_at_call 22; (with_reducible refine (pick_at v 5 z _ (by omega) (by omega) HZ0).mono ?_); rintro e wn ⟨rfl, rfl⟩)
  | (at_builtin; refine wpList_append_map1 (.tmp 139) (.tmp 147) rfl rfl W.heap.size v1 ([] ++ Q) rfl (World.ownsRow.alloc (World.ownsRow.alloc ho1 _) _) 131072 [3, y] _ _ _ rfl (by simp) rfl (by have := HQL.out; simp; omega) (Nat.le_trans hh1 (by simp <;> omega)) ?_; intro v3 w3 ho3 hg3; have hk3 : Keeps W w3 (fun _ => False) := keeps_two hk1 ho1 (ka3 w1 _ _ _) hg3; have hcf : w3.cell? ⟨w.heap.size + 1 + 1, 7, none⟩ = some (.slice p7 n7 q7) ∧ w3.frozen? ⟨w.heap.size + 1 + 1, 7, none⟩ = false := HC.out.cellG hk3 (by omega); obtain ⟨c3, f3⟩ := hcf; obtain ⟨pv, cv, Nv, rfl⟩ : ∃ p c N, v3 = .slice p N c := (by obtain ⟨p, c, e⟩ := RowQ.slice ho3; exact ⟨p, c, _, e⟩)))
 have hown : ∀ k, v1.ownBlock = some k → k < w1.heap.size := fun k hk => (World.ownsRow.lt ho1 k hk).2
 rw [List.nil_append] at ho3
 have hY : ∀ q ∈ [((131072, [3, y]), .slice (some ⟨w1.heap.size + 1, 0, none⟩) 2 2)], NewTo W w3 q := by
  intro q hq
  simp only [List.mem_cons, List.not_mem_nil, or_false] at hq
  subst hq
  exact new_to (W := W) (b := w1.heap.size + 1) (off := 0) ((ints_cells (w1.alloc (.cells #[.int .i64 2, .int .i64 3, .int .i64 4, .int .i64 60, .int .i64 61] 3)) #[.int .i64 3, .int .i64 y] 3 0 [3, y] (by simp) (by intro k hk; have hk2 : k = 0 ∨ k = 1 := (by simp at hk; omega); rcases hk2 with rfl | rfl <;> rfl)).alloc _) (by simp) hg3 (fun k hk => Nat.lt_succ_of_lt (hown k hk)) (Nat.le_succ_of_le hh1) rfl
 have HE : Hid (∃ x' T', OEnd w (w.heap.size + 1 + 1) (w.heap.size + 1) n ⟨.slice p0 n0 q0, .slice p1 n1 q1, .slice p2 n2 q2, .slice p3 n3 q3, .slice p4 n4 q4, .slice p5 n5 q5, .slice p6 n6 q6, .slice p7 n7 q7, .slice p8 n8 q8, .slice p9 n9 q9, .slice p10 n10 q10, .slice p11 n11 q11⟩ (w3.setCell ⟨w.heap.size + 1 + 1, 7, none⟩ (.slice pv Nv cv)) x' T') :=
  ⟨_, { T with ext := T.ext ++ [(131072, [3, y])] }, HC.out.fin (i := 7) (by omega) hk3 (fun wz hz => by
   have o := HC.out.oldT HX.out hk3 wz hz
   exact ⟨o.cat, o.cls, o.joi, o.bid, o.scr, o.sta, o.ign, (by have h := HC.out.maps hk3 ho3 (Nat.le_refl _) HQT.out hY (by have := HQL.out; simp; omega) wz hz; rw [HQM.out] at h; exact h), o.map, o.dec, o.exc, o.pro⟩) ⟨Nat.le_trans HF.out.cat (by omega), Nat.le_trans HF.out.cls (by omega), Nat.le_trans HF.out.joi (by omega), Nat.le_trans HF.out.bid (by omega), Nat.le_trans HF.out.scr (by omega), Nat.le_trans HF.out.sta (by omega), Nat.le_trans HF.out.ign (by omega), by simp only [List.length_append, List.length_cons, List.length_nil]; have := HF.out.ext; omega, Nat.le_trans HF.out.map (by omega), Nat.le_trans HF.out.dec (by omega), Nat.le_trans HF.out.exc (by omega), Nat.le_trans HF.out.pro (by omega)⟩ (fun h p n c e => h p n c e)⟩
 generalize (w3.setCell ⟨w.heap.size + 1 + 1, 7, none⟩ (.slice pv Nv cv)) = wx at HE ⊢
 clear ho1 hg1 hk1 hh1 hown ho3 hg3 hk3 hY c3 f3 ct
 generalize hrb : w.heap.size + 1 = rb at HE ⊢
 generalize hgg : w.heap.size + 1 + 1 = g at HE ⊢
 obtain ⟨⟨b0, b1, b2, b3, b4, b5, b6, b7, b8, b9, b10, b11⟩, T', he⟩ := HE.out
 have htv := he.tab wx (Keeps.refl _ _)
 obtain ⟨r0, m0, c0, hsl0⟩ : Slc b0 := htv.cat.slc
 subst hsl0
 obtain ⟨r1, m1, c1, hsl1⟩ : Slc b1 := htv.cls.slc
 subst hsl1
 obtain ⟨r2, m2, c2, hsl2⟩ : Slc b2 := htv.joi.slc
 subst hsl2
 obtain ⟨r3, m3, c3, hsl3⟩ : Slc b3 := htv.bid.slc
 subst hsl3
 obtain ⟨r4, m4, c4, hsl4⟩ : Slc b4 := htv.scr.slc
 subst hsl4
 obtain ⟨r5, m5, c5, hsl5⟩ : Slc b5 := htv.sta.slc
 subst hsl5
 obtain ⟨r6, m6, c6, hsl6⟩ : Slc b6 := htv.ign.slc
 subst hsl6
 obtain ⟨r7, m7, c7, hsl7⟩ : Slc b7 := htv.ext.slc
 subst hsl7
 obtain ⟨r8, m8, c8, hsl8⟩ : Slc b8 := htv.map.slc
 subst hsl8
 obtain ⟨r9, m9, c9, hsl9⟩ : Slc b9 := htv.dec.slc
 subst hsl9
 obtain ⟨r10, m10, c10, hsl10⟩ : Slc b10 := htv.exc.slc
 subst hsl10
 obtain ⟨r11, m11, c11, hsl11⟩ : Slc b11 := htv.pro.slc
 subst hsl11
 have HEE := Lib.hid he
 obtain ⟨⟨k0, k1, k2, k3, k4, k5⟩, ⟨k6, k7, k8, k9, k10, k11⟩⟩ := he.box.load
 simp only at k0 k1 k2 k3 k4 k5 k6 k7 k8 k9 k10 k11
 obtain ⟨s0, t0⟩ := he.res 0 (by omega)
 obtain ⟨s1, t1⟩ := he.res 1 (by omega)
 obtain ⟨s2, t2⟩ := he.res 2 (by omega)
 obtain ⟨s3, t3⟩ := he.res 3 (by omega)
 obtain ⟨s4, t4⟩ := he.res 4 (by omega)
 obtain ⟨s5, t5⟩ := he.res 5 (by omega)
 obtain ⟨s6, t6⟩ := he.res 6 (by omega)
 obtain ⟨s7, t7⟩ := he.res 7 (by omega)
 obtain ⟨s8, t8⟩ := he.res 8 (by omega)
 obtain ⟨s9, t9⟩ := he.res 9 (by omega)
 obtain ⟨s10, t10⟩ := he.res 10 (by omega)
 obtain ⟨s11, t11⟩ := he.res 11 (by omega)
 have HRB : Hid (w.heap.size ≤ rb) := by unfold Hid; omega
 clear HE he htv hrb hgg
 go_wp2
 obtain ⟨hbF, hkF⟩ := store12 wx rb (.slice r0 m0 c0) (.slice r1 m1 c1) (.slice r2 m2 c2) (.slice r3 m3 c3) (.slice r4 m4 c4) (.slice r5 m5 c5) (.slice r6 m6 c6) (.slice r7 m7 c7) (.slice r8 m8 c8) (.slice r9 m9 c9) (.slice r10 m10 c10) (.slice r11 m11 c11) HEE.out.res
 generalize (World.setCell (World.setCell (World.setCell (World.setCell (World.setCell (World.setCell (World.setCell (World.setCell (World.setCell (World.setCell (World.setCell (World.setCell (wx) ⟨rb, 0, none⟩ (.slice r0 m0 c0)) ⟨rb, 1, none⟩ (.slice r1 m1 c1)) ⟨rb, 2, none⟩ (.slice r2 m2 c2)) ⟨rb, 3, none⟩ (.slice r3 m3 c3)) ⟨rb, 4, none⟩ (.slice r4 m4 c4)) ⟨rb, 5, none⟩ (.slice r5 m5 c5)) ⟨rb, 6, none⟩ (.slice r6 m6 c6)) ⟨rb, 7, none⟩ (.slice r7 m7 c7)) ⟨rb, 8, none⟩ (.slice r8 m8 c8)) ⟨rb, 9, none⟩ (.slice r9 m9 c9)) ⟨rb, 10, none⟩ (.slice r10 m10 c10)) ⟨rb, 11, none⟩ (.slice r11 m11 c11)) = WF at hbF hkF ⊢
 obtain ⟨⟨Q0, Q1, Q2, Q3, Q4, Q5⟩, ⟨Q6, Q7, Q8, Q9, Q10, Q11⟩⟩ := hbF.load
 simp only at Q0 Q1 Q2 Q3 Q4 Q5 Q6 Q7 Q8 Q9 Q10 Q11
 refine bodyPost_ret (v := .agg #[.slice r0 m0 c0, .slice r1 m1 c1, .slice r2 m2 c2, .slice r3 m3 c3, .slice r4 m4 c4, .slice r5 m5 c5, .slice r6 m6 c6, .slice r7 m7 c7, .slice r8 m8 c8, .slice r9 m9 c9, .slice r10 m10 c10, .slice r11 m11 c11]) (by simp [results, Tryz.results17, go_sem, Q0, Q1, Q2, Q3, Q4, Q5, Q6, Q7, Q8, Q9, Q10, Q11]) rfl ?_
 exact ⟨⟨.slice r0 m0 c0, .slice r1 m1 c1, .slice r2 m2 c2, .slice r3 m3 c3, .slice r4 m4 c4, .slice r5 m5 c5, .slice r6 m6 c6, .slice r7 m7 c7, .slice r8 m8 c8, .slice r9 m9 c9, .slice r10 m10 c10, .slice r11 m11 c11⟩, T', rfl, HEE.out.tab WF hkF, HEE.out.few, HEE.out.cap, HEE.out.bel.trans (hkF.below HEE.out.bel.size (fun b _ e => by have := HRB.out; omega))⟩
set_option maxRecDepth 100000 in
set_option maxHeartbeats 4000000 in
theorem other_0 (x : TV) (T : Tb) (n : Nat) (how at' v : Int) (w : World) (hx : TabV w x T) (hf : Few n T) (hn : n ≤ 1000) (hk : Hid (pickS how 12 = 0)) :
 Calls Tryz.prog 17 #[x.agg, .int .i64 how, .int .i64 at', .int .i64 v] w (OtherPost x n w) := by
 obtain ⟨a0, a1, a2, a3, a4, a5, a6, a7, a8, a9, a10, a11⟩ := x
 obtain ⟨p0, n0, q0, hsl0⟩ : Slc a0 := hx.cat.slc
 subst hsl0
 obtain ⟨p1, n1, q1, hsl1⟩ : Slc a1 := hx.cls.slc
 subst hsl1
 obtain ⟨p2, n2, q2, hsl2⟩ : Slc a2 := hx.joi.slc
 subst hsl2
 obtain ⟨p3, n3, q3, hsl3⟩ : Slc a3 := hx.bid.slc
 subst hsl3
 obtain ⟨p4, n4, q4, hsl4⟩ : Slc a4 := hx.scr.slc
 subst hsl4
 obtain ⟨p5, n5, q5, hsl5⟩ : Slc a5 := hx.sta.slc
 subst hsl5
 obtain ⟨p6, n6, q6, hsl6⟩ : Slc a6 := hx.ign.slc
 subst hsl6
 obtain ⟨p7, n7, q7, hsl7⟩ : Slc a7 := hx.ext.slc
 subst hsl7
 obtain ⟨p8, n8, q8, hsl8⟩ : Slc a8 := hx.map.slc
 subst hsl8
 obtain ⟨p9, n9, q9, hsl9⟩ : Slc a9 := hx.dec.slc
 subst hsl9
 obtain ⟨p10, n10, q10, hsl10⟩ : Slc a10 := hx.exc.slc
 subst hsl10
 obtain ⟨p11, n11, q11, hsl11⟩ : Slc a11 := hx.pro.slc
 subst hsl11
 have hC := OCase.new w ⟨.slice p0 n0 q0, .slice p1 n1 q1, .slice p2 n2 q2, .slice p3 n3 q3, .slice p4 n4 q4, .slice p5 n5 q5, .slice p6 n6 q6, .slice p7 n7 q7, .slice p8 n8 q8, .slice p9 n9 q9, .slice p10 n10 q10, .slice p11 n11 q11⟩ 26
 obtain ⟨W, hW⟩ : ∃ W, ((w.alloc (.cells #[.slice p0 n0 q0, .slice p1 n1 q1, .slice p2 n2 q2, .slice p3 n3 q3, .slice p4 n4 q4, .slice p5 n5 q5, .slice p6 n6 q6, .slice p7 n7 q7, .slice p8 n8 q8, .slice p9 n9 q9, .slice p10 n10 q10, .slice p11 n11 q11] 26)).alloc (.cells nilC 26)).alloc (.cells #[.slice p0 n0 q0, .slice p1 n1 q1, .slice p2 n2 q2, .slice p3 n3 q3, .slice p4 n4 q4, .slice p5 n5 q5, .slice p6 n6 q6, .slice p7 n7 q7, .slice p8 n8 q8, .slice p9 n9 q9, .slice p10 n10 q10, .slice p11 n11 q11] 26) = W := ⟨_, rfl⟩
 simp only [tabCells] at hC
 rw [hW] at hC
 have HC := Lib.hid hC
 have HX := Lib.hid hx
 have HF := Lib.hid hf
 obtain ⟨pp, cc, he1, hin1, hl1⟩ := hx.cls
 injection he1 with e1 e2 e3
 subst e1
 subst e3
 have hle : n1 ≤ n := by rw [e2]; exact hf.cls
 have HQL : Hid (T.cls.length = n1) := e2.symm
 have HQI := Lib.hid (hin1.below hC.bel)
 have ct : W.cell? ⟨w.heap.size, 1, none⟩ = some (.slice p1 n1 q1) := hC.cellT (by omega)
 clear hin1 hl1 e2
 obtain ⟨z1, HZ1, y0, y1⟩ := pick_nm v 5 (by omega)
 obtain ⟨z2, HZ2, u0, u1⟩ := pick_nm (wrap64 (v.tdiv 5)) 256 (by omega)
 go_enter Tryz.func17, Tryz.ntmps17
 go_wp2_with fail
 refine (pick_at how 12 0 _ (by omega) (by omega) hk).mono ?_
 rintro e wz ⟨rfl, rfl⟩
 clear hW hC hx hf hk
 go_upto_region 28 with (first
  | (at_builtin; refine wpList_append_spans (.const (.slice none 0 0)) (.tmp 29) rfl rfl W.heap.size (.slice none 0 0) [] rfl (Spans.nil _ _) p1 n1 q1 T.cls HQL.out rfl HQI.out (by have := HQL.out; simp; omega) (Nat.le_refl _) ?_; intro v1 w1 ho1 hg1; have hk1 : Keeps W w1 (fun _ => False) := keeps_g hg1; have hh1 := hk1.size)
  | (go_at_call 22; (with_reducible refine (pick_at v 5 z1 _ (by omega) (by omega) HZ1).mono ?_); rintro e wn ⟨rfl, rfl⟩)
  | (go_at_call 22; (with_reducible refine (pick_at _ 256 z2 _ (by omega) (by omega) HZ2).mono ?_); rintro e wn ⟨rfl, rfl⟩)
  | (at_builtin; refine wpList_append_span (.tmp 30) (.tmp 39) rfl rfl W.heap.size v1 ([] ++ T.cls) rfl ho1 (131072, 131072 + z1 - 1, z2) _ _ rfl rfl (by have := HQL.out; simp; omega) hh1 ?_; intro v3 w3 ho3 hg3; have hk3 : Keeps W w3 (fun _ => False) := keeps_two hk1 ho1 (ka0 w1) hg3; have hcf : w3.cell? ⟨w.heap.size + 1 + 1, 1, none⟩ = some (.slice p1 n1 q1) ∧ w3.frozen? ⟨w.heap.size + 1 + 1, 1, none⟩ = false := HC.out.cellG hk3 (by omega); obtain ⟨c3, f3⟩ := hcf; obtain ⟨pv, cv, Nv, rfl⟩ : ∃ p c N, v3 = .slice p N c := (by obtain ⟨p, c, e, _⟩ := ho3.inn; exact ⟨p, c, _, e⟩)))
 rw [List.nil_append] at ho3
 have HE : Hid (∃ x' T', OEnd w (w.heap.size + 1 + 1) (w.heap.size + 1) n ⟨.slice p0 n0 q0, .slice p1 n1 q1, .slice p2 n2 q2, .slice p3 n3 q3, .slice p4 n4 q4, .slice p5 n5 q5, .slice p6 n6 q6, .slice p7 n7 q7, .slice p8 n8 q8, .slice p9 n9 q9, .slice p10 n10 q10, .slice p11 n11 q11⟩ (w3.setCell ⟨w.heap.size + 1 + 1, 1, none⟩ (.slice pv Nv cv)) x' T') :=
  ⟨_, { T with cls := T.cls ++ [(131072, 131072 + z1 - 1, z2)] }, HC.out.fin (i := 1) (by omega) hk3 (fun wz hz => by
   have o := HC.out.oldT HX.out hk3 wz hz
   exact ⟨o.cat, HC.out.spans ho3 (Nat.le_refl _) (by have := HQL.out; simp; omega) wz hz, o.joi, o.bid, o.scr, o.sta, o.ign, o.ext, o.map, o.dec, o.exc, o.pro⟩) ⟨Nat.le_trans HF.out.cat (by omega), by simp only [List.length_append, List.length_cons, List.length_nil]; have := HF.out.cls; omega, Nat.le_trans HF.out.joi (by omega), Nat.le_trans HF.out.bid (by omega), Nat.le_trans HF.out.scr (by omega), Nat.le_trans HF.out.sta (by omega), Nat.le_trans HF.out.ign (by omega), Nat.le_trans HF.out.ext (by omega), Nat.le_trans HF.out.map (by omega), Nat.le_trans HF.out.dec (by omega), Nat.le_trans HF.out.exc (by omega), Nat.le_trans HF.out.pro (by omega)⟩ (fun h p n c e => h p n c e)⟩
 generalize (w3.setCell ⟨w.heap.size + 1 + 1, 1, none⟩ (.slice pv Nv cv)) = wx at HE ⊢
 clear ho1 hg1 hk1 hh1 ho3 hg3 hk3 c3 f3 ct
 generalize hrb : w.heap.size + 1 = rb at HE ⊢
 generalize hgg : w.heap.size + 1 + 1 = g at HE ⊢
 obtain ⟨⟨b0, b1, b2, b3, b4, b5, b6, b7, b8, b9, b10, b11⟩, T', he⟩ := HE.out
 have htv := he.tab wx (Keeps.refl _ _)
 obtain ⟨r0, m0, c0, hsl0⟩ : Slc b0 := htv.cat.slc
 subst hsl0
 obtain ⟨r1, m1, c1, hsl1⟩ : Slc b1 := htv.cls.slc
 subst hsl1
 obtain ⟨r2, m2, c2, hsl2⟩ : Slc b2 := htv.joi.slc
 subst hsl2
 obtain ⟨r3, m3, c3, hsl3⟩ : Slc b3 := htv.bid.slc
 subst hsl3
 obtain ⟨r4, m4, c4, hsl4⟩ : Slc b4 := htv.scr.slc
 subst hsl4
 obtain ⟨r5, m5, c5, hsl5⟩ : Slc b5 := htv.sta.slc
 subst hsl5
 obtain ⟨r6, m6, c6, hsl6⟩ : Slc b6 := htv.ign.slc
 subst hsl6
 obtain ⟨r7, m7, c7, hsl7⟩ : Slc b7 := htv.ext.slc
 subst hsl7
 obtain ⟨r8, m8, c8, hsl8⟩ : Slc b8 := htv.map.slc
 subst hsl8
 obtain ⟨r9, m9, c9, hsl9⟩ : Slc b9 := htv.dec.slc
 subst hsl9
 obtain ⟨r10, m10, c10, hsl10⟩ : Slc b10 := htv.exc.slc
 subst hsl10
 obtain ⟨r11, m11, c11, hsl11⟩ : Slc b11 := htv.pro.slc
 subst hsl11
 have HEE := Lib.hid he
 obtain ⟨⟨k0, k1, k2, k3, k4, k5⟩, ⟨k6, k7, k8, k9, k10, k11⟩⟩ := he.box.load
 simp only at k0 k1 k2 k3 k4 k5 k6 k7 k8 k9 k10 k11
 obtain ⟨s0, t0⟩ := he.res 0 (by omega)
 obtain ⟨s1, t1⟩ := he.res 1 (by omega)
 obtain ⟨s2, t2⟩ := he.res 2 (by omega)
 obtain ⟨s3, t3⟩ := he.res 3 (by omega)
 obtain ⟨s4, t4⟩ := he.res 4 (by omega)
 obtain ⟨s5, t5⟩ := he.res 5 (by omega)
 obtain ⟨s6, t6⟩ := he.res 6 (by omega)
 obtain ⟨s7, t7⟩ := he.res 7 (by omega)
 obtain ⟨s8, t8⟩ := he.res 8 (by omega)
 obtain ⟨s9, t9⟩ := he.res 9 (by omega)
 obtain ⟨s10, t10⟩ := he.res 10 (by omega)
 obtain ⟨s11, t11⟩ := he.res 11 (by omega)
 have HRB : Hid (w.heap.size ≤ rb) := by unfold Hid; omega
 clear HE he htv hrb hgg
 go_wp2
 obtain ⟨hbF, hkF⟩ := store12 wx rb (.slice r0 m0 c0) (.slice r1 m1 c1) (.slice r2 m2 c2) (.slice r3 m3 c3) (.slice r4 m4 c4) (.slice r5 m5 c5) (.slice r6 m6 c6) (.slice r7 m7 c7) (.slice r8 m8 c8) (.slice r9 m9 c9) (.slice r10 m10 c10) (.slice r11 m11 c11) HEE.out.res
 generalize (World.setCell (World.setCell (World.setCell (World.setCell (World.setCell (World.setCell (World.setCell (World.setCell (World.setCell (World.setCell (World.setCell (World.setCell (wx) ⟨rb, 0, none⟩ (.slice r0 m0 c0)) ⟨rb, 1, none⟩ (.slice r1 m1 c1)) ⟨rb, 2, none⟩ (.slice r2 m2 c2)) ⟨rb, 3, none⟩ (.slice r3 m3 c3)) ⟨rb, 4, none⟩ (.slice r4 m4 c4)) ⟨rb, 5, none⟩ (.slice r5 m5 c5)) ⟨rb, 6, none⟩ (.slice r6 m6 c6)) ⟨rb, 7, none⟩ (.slice r7 m7 c7)) ⟨rb, 8, none⟩ (.slice r8 m8 c8)) ⟨rb, 9, none⟩ (.slice r9 m9 c9)) ⟨rb, 10, none⟩ (.slice r10 m10 c10)) ⟨rb, 11, none⟩ (.slice r11 m11 c11)) = WF at hbF hkF ⊢
 obtain ⟨⟨Q0, Q1, Q2, Q3, Q4, Q5⟩, ⟨Q6, Q7, Q8, Q9, Q10, Q11⟩⟩ := hbF.load
 simp only at Q0 Q1 Q2 Q3 Q4 Q5 Q6 Q7 Q8 Q9 Q10 Q11
 refine bodyPost_ret (v := .agg #[.slice r0 m0 c0, .slice r1 m1 c1, .slice r2 m2 c2, .slice r3 m3 c3, .slice r4 m4 c4, .slice r5 m5 c5, .slice r6 m6 c6, .slice r7 m7 c7, .slice r8 m8 c8, .slice r9 m9 c9, .slice r10 m10 c10, .slice r11 m11 c11]) (by simp [results, Tryz.results17, go_sem, Q0, Q1, Q2, Q3, Q4, Q5, Q6, Q7, Q8, Q9, Q10, Q11]) rfl ?_
 exact ⟨⟨.slice r0 m0 c0, .slice r1 m1 c1, .slice r2 m2 c2, .slice r3 m3 c3, .slice r4 m4 c4, .slice r5 m5 c5, .slice r6 m6 c6, .slice r7 m7 c7, .slice r8 m8 c8, .slice r9 m9 c9, .slice r10 m10 c10, .slice r11 m11 c11⟩, T', rfl, HEE.out.tab WF hkF, HEE.out.few, HEE.out.cap, HEE.out.bel.trans (hkF.below HEE.out.bel.size (fun b _ e => by have := HRB.out; omega))⟩
set_option maxRecDepth 100000 in
set_option maxHeartbeats 4000000 in
theorem other_1 (x : TV) (T : Tb) (n : Nat) (how at' v : Int) (w : World) (hx : TabV w x T) (hf : Few n T) (hn : n ≤ 1000) (hk : Hid (pickS how 12 = 1)) :
 Calls Tryz.prog 17 #[x.agg, .int .i64 how, .int .i64 at', .int .i64 v] w (OtherPost x n w) := by
 obtain ⟨a0, a1, a2, a3, a4, a5, a6, a7, a8, a9, a10, a11⟩ := x
 obtain ⟨p0, n0, q0, hsl0⟩ : Slc a0 := hx.cat.slc
 subst hsl0
 obtain ⟨p1, n1, q1, hsl1⟩ : Slc a1 := hx.cls.slc
 subst hsl1
 obtain ⟨p2, n2, q2, hsl2⟩ : Slc a2 := hx.joi.slc
 subst hsl2
 obtain ⟨p3, n3, q3, hsl3⟩ : Slc a3 := hx.bid.slc
 subst hsl3
 obtain ⟨p4, n4, q4, hsl4⟩ : Slc a4 := hx.scr.slc
 subst hsl4
 obtain ⟨p5, n5, q5, hsl5⟩ : Slc a5 := hx.sta.slc
 subst hsl5
 obtain ⟨p6, n6, q6, hsl6⟩ : Slc a6 := hx.ign.slc
 subst hsl6
 obtain ⟨p7, n7, q7, hsl7⟩ : Slc a7 := hx.ext.slc
 subst hsl7
 obtain ⟨p8, n8, q8, hsl8⟩ : Slc a8 := hx.map.slc
 subst hsl8
 obtain ⟨p9, n9, q9, hsl9⟩ : Slc a9 := hx.dec.slc
 subst hsl9
 obtain ⟨p10, n10, q10, hsl10⟩ : Slc a10 := hx.exc.slc
 subst hsl10
 obtain ⟨p11, n11, q11, hsl11⟩ : Slc a11 := hx.pro.slc
 subst hsl11
 have hC := OCase.new w ⟨.slice p0 n0 q0, .slice p1 n1 q1, .slice p2 n2 q2, .slice p3 n3 q3, .slice p4 n4 q4, .slice p5 n5 q5, .slice p6 n6 q6, .slice p7 n7 q7, .slice p8 n8 q8, .slice p9 n9 q9, .slice p10 n10 q10, .slice p11 n11 q11⟩ 26
 obtain ⟨W, hW⟩ : ∃ W, ((w.alloc (.cells #[.slice p0 n0 q0, .slice p1 n1 q1, .slice p2 n2 q2, .slice p3 n3 q3, .slice p4 n4 q4, .slice p5 n5 q5, .slice p6 n6 q6, .slice p7 n7 q7, .slice p8 n8 q8, .slice p9 n9 q9, .slice p10 n10 q10, .slice p11 n11 q11] 26)).alloc (.cells nilC 26)).alloc (.cells #[.slice p0 n0 q0, .slice p1 n1 q1, .slice p2 n2 q2, .slice p3 n3 q3, .slice p4 n4 q4, .slice p5 n5 q5, .slice p6 n6 q6, .slice p7 n7 q7, .slice p8 n8 q8, .slice p9 n9 q9, .slice p10 n10 q10, .slice p11 n11 q11] 26) = W := ⟨_, rfl⟩
 simp only [tabCells] at hC
 rw [hW] at hC
 have HC := Lib.hid hC
 have HX := Lib.hid hx
 have HF := Lib.hid hf
 obtain ⟨pp, cc, he5, hin5, hl5⟩ := hx.sta
 injection he5 with e1 e2 e3
 subst e1
 subst e3
 have hle : n5 ≤ n := by rw [e2]; exact hf.sta
 have HQL : Hid (T.sta.length = n5) := e2.symm
 have HQI := Lib.hid (hin5.below hC.bel)
 have ct : W.cell? ⟨w.heap.size, 5, none⟩ = some (.slice p5 n5 q5) := hC.cellT (by omega)
 clear hin5 hl5 e2
 obtain ⟨z1, HZ1, y0, y1⟩ := pick_nm v 6 (by omega)
 go_enter Tryz.func17, Tryz.ntmps17
 go_wp2_with fail
 refine (pick_at how 12 1 _ (by omega) (by omega) hk).mono ?_
 rintro e wz ⟨rfl, rfl⟩
 clear hW hC hx hf hk
 go_upto_region 28 with (first
  | (at_builtin; refine wpList_append_spans (.const (.slice none 0 0)) (.tmp 45) rfl rfl W.heap.size (.slice none 0 0) [] rfl (Spans.nil _ _) p5 n5 q5 T.sta HQL.out rfl HQI.out (by have := HQL.out; simp; omega) (Nat.le_refl _) ?_; intro v1 w1 ho1 hg1; have hk1 : Keeps W w1 (fun _ => False) := keeps_g hg1; have hh1 := hk1.size)
  | (go_at_call 22; (with_reducible refine (pick_at v 6 z1 _ (by omega) (by omega) HZ1).mono ?_); rintro e wn ⟨rfl, rfl⟩)
  | (at_builtin; refine wpList_append_span (.tmp 46) (.tmp 50) rfl rfl W.heap.size v1 ([] ++ T.sta) rfl ho1 (131072, 131072, z1) _ _ rfl rfl (by have := HQL.out; simp; omega) hh1 ?_; intro v3 w3 ho3 hg3; have hk3 : Keeps W w3 (fun _ => False) := keeps_two hk1 ho1 (ka0 w1) hg3; have hcf : w3.cell? ⟨w.heap.size + 1 + 1, 5, none⟩ = some (.slice p5 n5 q5) ∧ w3.frozen? ⟨w.heap.size + 1 + 1, 5, none⟩ = false := HC.out.cellG hk3 (by omega); obtain ⟨c3, f3⟩ := hcf; obtain ⟨pv, cv, Nv, rfl⟩ : ∃ p c N, v3 = .slice p N c := (by obtain ⟨p, c, e, _⟩ := ho3.inn; exact ⟨p, c, _, e⟩)))
 rw [List.nil_append] at ho3
 have HE : Hid (∃ x' T', OEnd w (w.heap.size + 1 + 1) (w.heap.size + 1) n ⟨.slice p0 n0 q0, .slice p1 n1 q1, .slice p2 n2 q2, .slice p3 n3 q3, .slice p4 n4 q4, .slice p5 n5 q5, .slice p6 n6 q6, .slice p7 n7 q7, .slice p8 n8 q8, .slice p9 n9 q9, .slice p10 n10 q10, .slice p11 n11 q11⟩ (w3.setCell ⟨w.heap.size + 1 + 1, 5, none⟩ (.slice pv Nv cv)) x' T') :=
  ⟨_, { T with sta := T.sta ++ [(131072, 131072, z1)] }, HC.out.fin (i := 5) (by omega) hk3 (fun wz hz => by
   have o := HC.out.oldT HX.out hk3 wz hz
   exact ⟨o.cat, o.cls, o.joi, o.bid, o.scr, HC.out.spans ho3 (Nat.le_refl _) (by have := HQL.out; simp; omega) wz hz, o.ign, o.ext, o.map, o.dec, o.exc, o.pro⟩) ⟨Nat.le_trans HF.out.cat (by omega), Nat.le_trans HF.out.cls (by omega), Nat.le_trans HF.out.joi (by omega), Nat.le_trans HF.out.bid (by omega), Nat.le_trans HF.out.scr (by omega), by simp only [List.length_append, List.length_cons, List.length_nil]; have := HF.out.sta; omega, Nat.le_trans HF.out.ign (by omega), Nat.le_trans HF.out.ext (by omega), Nat.le_trans HF.out.map (by omega), Nat.le_trans HF.out.dec (by omega), Nat.le_trans HF.out.exc (by omega), Nat.le_trans HF.out.pro (by omega)⟩ (fun h p n c e => h p n c e)⟩
 generalize (w3.setCell ⟨w.heap.size + 1 + 1, 5, none⟩ (.slice pv Nv cv)) = wx at HE ⊢
 clear ho1 hg1 hk1 hh1 ho3 hg3 hk3 c3 f3 ct
 generalize hrb : w.heap.size + 1 = rb at HE ⊢
 generalize hgg : w.heap.size + 1 + 1 = g at HE ⊢
 obtain ⟨⟨b0, b1, b2, b3, b4, b5, b6, b7, b8, b9, b10, b11⟩, T', he⟩ := HE.out
 have htv := he.tab wx (Keeps.refl _ _)
 obtain ⟨r0, m0, c0, hsl0⟩ : Slc b0 := htv.cat.slc
 subst hsl0
 obtain ⟨r1, m1, c1, hsl1⟩ : Slc b1 := htv.cls.slc
 subst hsl1
 obtain ⟨r2, m2, c2, hsl2⟩ : Slc b2 := htv.joi.slc
 subst hsl2
 obtain ⟨r3, m3, c3, hsl3⟩ : Slc b3 := htv.bid.slc
 subst hsl3
 obtain ⟨r4, m4, c4, hsl4⟩ : Slc b4 := htv.scr.slc
 subst hsl4
 obtain ⟨r5, m5, c5, hsl5⟩ : Slc b5 := htv.sta.slc
 subst hsl5
 obtain ⟨r6, m6, c6, hsl6⟩ : Slc b6 := htv.ign.slc
 subst hsl6
 obtain ⟨r7, m7, c7, hsl7⟩ : Slc b7 := htv.ext.slc
 subst hsl7
 obtain ⟨r8, m8, c8, hsl8⟩ : Slc b8 := htv.map.slc
 subst hsl8
 obtain ⟨r9, m9, c9, hsl9⟩ : Slc b9 := htv.dec.slc
 subst hsl9
 obtain ⟨r10, m10, c10, hsl10⟩ : Slc b10 := htv.exc.slc
 subst hsl10
 obtain ⟨r11, m11, c11, hsl11⟩ : Slc b11 := htv.pro.slc
 subst hsl11
 have HEE := Lib.hid he
 obtain ⟨⟨k0, k1, k2, k3, k4, k5⟩, ⟨k6, k7, k8, k9, k10, k11⟩⟩ := he.box.load
 simp only at k0 k1 k2 k3 k4 k5 k6 k7 k8 k9 k10 k11
 obtain ⟨s0, t0⟩ := he.res 0 (by omega)
 obtain ⟨s1, t1⟩ := he.res 1 (by omega)
 obtain ⟨s2, t2⟩ := he.res 2 (by omega)
 obtain ⟨s3, t3⟩ := he.res 3 (by omega)
 obtain ⟨s4, t4⟩ := he.res 4 (by omega)
 obtain ⟨s5, t5⟩ := he.res 5 (by omega)
 obtain ⟨s6, t6⟩ := he.res 6 (by omega)
 obtain ⟨s7, t7⟩ := he.res 7 (by omega)
 obtain ⟨s8, t8⟩ := he.res 8 (by omega)
 obtain ⟨s9, t9⟩ := he.res 9 (by omega)
 obtain ⟨s10, t10⟩ := he.res 10 (by omega)
 obtain ⟨s11, t11⟩ := he.res 11 (by omega)
 have HRB : Hid (w.heap.size ≤ rb) := by unfold Hid; omega
 clear HE he htv hrb hgg
 go_wp2
 obtain ⟨hbF, hkF⟩ := store12 wx rb (.slice r0 m0 c0) (.slice r1 m1 c1) (.slice r2 m2 c2) (.slice r3 m3 c3) (.slice r4 m4 c4) (.slice r5 m5 c5) (.slice r6 m6 c6) (.slice r7 m7 c7) (.slice r8 m8 c8) (.slice r9 m9 c9) (.slice r10 m10 c10) (.slice r11 m11 c11) HEE.out.res
 generalize (World.setCell (World.setCell (World.setCell (World.setCell (World.setCell (World.setCell (World.setCell (World.setCell (World.setCell (World.setCell (World.setCell (World.setCell (wx) ⟨rb, 0, none⟩ (.slice r0 m0 c0)) ⟨rb, 1, none⟩ (.slice r1 m1 c1)) ⟨rb, 2, none⟩ (.slice r2 m2 c2)) ⟨rb, 3, none⟩ (.slice r3 m3 c3)) ⟨rb, 4, none⟩ (.slice r4 m4 c4)) ⟨rb, 5, none⟩ (.slice r5 m5 c5)) ⟨rb, 6, none⟩ (.slice r6 m6 c6)) ⟨rb, 7, none⟩ (.slice r7 m7 c7)) ⟨rb, 8, none⟩ (.slice r8 m8 c8)) ⟨rb, 9, none⟩ (.slice r9 m9 c9)) ⟨rb, 10, none⟩ (.slice r10 m10 c10)) ⟨rb, 11, none⟩ (.slice r11 m11 c11)) = WF at hbF hkF ⊢
 obtain ⟨⟨Q0, Q1, Q2, Q3, Q4, Q5⟩, ⟨Q6, Q7, Q8, Q9, Q10, Q11⟩⟩ := hbF.load
 simp only at Q0 Q1 Q2 Q3 Q4 Q5 Q6 Q7 Q8 Q9 Q10 Q11
 refine bodyPost_ret (v := .agg #[.slice r0 m0 c0, .slice r1 m1 c1, .slice r2 m2 c2, .slice r3 m3 c3, .slice r4 m4 c4, .slice r5 m5 c5, .slice r6 m6 c6, .slice r7 m7 c7, .slice r8 m8 c8, .slice r9 m9 c9, .slice r10 m10 c10, .slice r11 m11 c11]) (by simp [results, Tryz.results17, go_sem, Q0, Q1, Q2, Q3, Q4, Q5, Q6, Q7, Q8, Q9, Q10, Q11]) rfl ?_
 exact ⟨⟨.slice r0 m0 c0, .slice r1 m1 c1, .slice r2 m2 c2, .slice r3 m3 c3, .slice r4 m4 c4, .slice r5 m5 c5, .slice r6 m6 c6, .slice r7 m7 c7, .slice r8 m8 c8, .slice r9 m9 c9, .slice r10 m10 c10, .slice r11 m11 c11⟩, T', rfl, HEE.out.tab WF hkF, HEE.out.few, HEE.out.cap, HEE.out.bel.trans (hkF.below HEE.out.bel.size (fun b _ e => by have := HRB.out; omega))⟩
set_option maxRecDepth 100000 in
set_option maxHeartbeats 4000000 in
theorem other_5 (x : TV) (T : Tb) (n : Nat) (how at' v : Int) (w : World) (hx : TabV w x T) (hf : Few n T) (hn : n ≤ 1000) (hk : Hid (pickS how 12 = 5)) :
 Calls Tryz.prog 17 #[x.agg, .int .i64 how, .int .i64 at', .int .i64 v] w (OtherPost x n w) := by
 obtain ⟨a0, a1, a2, a3, a4, a5, a6, a7, a8, a9, a10, a11⟩ := x
 obtain ⟨p0, n0, q0, hsl0⟩ : Slc a0 := hx.cat.slc
 subst hsl0
 obtain ⟨p1, n1, q1, hsl1⟩ : Slc a1 := hx.cls.slc
 subst hsl1
 obtain ⟨p2, n2, q2, hsl2⟩ : Slc a2 := hx.joi.slc
 subst hsl2
 obtain ⟨p3, n3, q3, hsl3⟩ : Slc a3 := hx.bid.slc
 subst hsl3
 obtain ⟨p4, n4, q4, hsl4⟩ : Slc a4 := hx.scr.slc
 subst hsl4
 obtain ⟨p5, n5, q5, hsl5⟩ : Slc a5 := hx.sta.slc
 subst hsl5
 obtain ⟨p6, n6, q6, hsl6⟩ : Slc a6 := hx.ign.slc
 subst hsl6
 obtain ⟨p7, n7, q7, hsl7⟩ : Slc a7 := hx.ext.slc
 subst hsl7
 obtain ⟨p8, n8, q8, hsl8⟩ : Slc a8 := hx.map.slc
 subst hsl8
 obtain ⟨p9, n9, q9, hsl9⟩ : Slc a9 := hx.dec.slc
 subst hsl9
 obtain ⟨p10, n10, q10, hsl10⟩ : Slc a10 := hx.exc.slc
 subst hsl10
 obtain ⟨p11, n11, q11, hsl11⟩ : Slc a11 := hx.pro.slc
 subst hsl11
 have hC := OCase.new w ⟨.slice p0 n0 q0, .slice p1 n1 q1, .slice p2 n2 q2, .slice p3 n3 q3, .slice p4 n4 q4, .slice p5 n5 q5, .slice p6 n6 q6, .slice p7 n7 q7, .slice p8 n8 q8, .slice p9 n9 q9, .slice p10 n10 q10, .slice p11 n11 q11⟩ 26
 obtain ⟨W, hW⟩ : ∃ W, ((w.alloc (.cells #[.slice p0 n0 q0, .slice p1 n1 q1, .slice p2 n2 q2, .slice p3 n3 q3, .slice p4 n4 q4, .slice p5 n5 q5, .slice p6 n6 q6, .slice p7 n7 q7, .slice p8 n8 q8, .slice p9 n9 q9, .slice p10 n10 q10, .slice p11 n11 q11] 26)).alloc (.cells nilC 26)).alloc (.cells #[.slice p0 n0 q0, .slice p1 n1 q1, .slice p2 n2 q2, .slice p3 n3 q3, .slice p4 n4 q4, .slice p5 n5 q5, .slice p6 n6 q6, .slice p7 n7 q7, .slice p8 n8 q8, .slice p9 n9 q9, .slice p10 n10 q10, .slice p11 n11 q11] 26) = W := ⟨_, rfl⟩
 simp only [tabCells] at hC
 rw [hW] at hC
 have HC := Lib.hid hC
 have HX := Lib.hid hx
 have HF := Lib.hid hf
 obtain ⟨pp, cc, he10, hin10, hl10⟩ := hx.exc
 injection he10 with e1 e2 e3
 subst e1
 subst e3
 have hle : n10 ≤ n := by rw [e2]; exact hf.exc
 have HQL : Hid (T.exc.length = n10) := e2.symm
 have HQI := Lib.hid (hin10.below hC.bel)
 have ct : W.cell? ⟨w.heap.size, 10, none⟩ = some (.slice p10 n10 q10) := hC.cellT (by omega)
 clear hin10 hl10 e2
 obtain ⟨z0, HZ0, hz0, hz1⟩ := pick_nm v 4 (by omega)
 obtain ⟨z, rfl⟩ : ∃ z : Nat, z0 = z := ⟨z0.toNat, by omega⟩
 obtain ⟨y, hy⟩ : ∃ y, ([131072, 7684, 945, 5] : List Int).getD z 0 = y := ⟨_, rfl⟩
 have HYC : Hid (∀ W1 : World, (W1.alloc (.cells #[.int .i64 131072, .int .i64 7684, .int .i64 945, .int .i64 5] 3)).cell? ⟨W1.heap.size, z, none⟩ = some (.int .i64 y)) := by
  intro W1
  have hz : z = 0 ∨ z = 1 ∨ z = 2 ∨ z = 3 := by omega
  rw [← hy]
  rcases hz with rfl | rfl | rfl | rfl <;> simp [World.cell?_alloc_new]
 clear hy
 go_enter Tryz.func17, Tryz.ntmps17
 go_wp2_with fail
 refine (pick_at how 12 5 _ (by omega) (by omega) hk).mono ?_
 rintro e wz ⟨rfl, rfl⟩
 clear hW hC hx hf hk
 go_upto_region 28 with (first
  | (at_builtin; refine wpList_append_ints (.const (.slice none 0 0)) (.tmp 100) rfl rfl W.heap.size (.slice none 0 0) [] rfl (Ints.nil _ _) p10 n10 q10 T.exc HQL.out rfl HQI.out (by have := HQL.out; simp; omega) (Nat.le_refl _) ?_; intro v1 w1 ho1 hg1; have hk1 : Keeps W w1 (fun _ => False) := keeps_g hg1; have hh1 := hk1.size; have y1 : (w1.alloc (.cells #[.int .i64 131072, .int .i64 7684, .int .i64 945, .int .i64 5] 3)).cell? ⟨w1.heap.size, z, none⟩ = some (.int .i64 y) := HYC.out w1)
  | (go_at_call 22; (with_reducible refine (pick_at v 4 z _ (by omega) (by omega) HZ0).mono ?_); rintro e wn ⟨rfl, rfl⟩)
  | (at_builtin; refine wpList_append_int (.tmp 101) (.tmp 107) rfl rfl W.heap.size v1 ([] ++ T.exc) rfl (Ints.alloc ho1 _) y _ _ rfl (by simp) (by have := HQL.out; simp; omega) (Nat.le_trans hh1 (by simp <;> omega)) ?_; intro v3 w3 ho3 hg3; have hk3 : Keeps W w3 (fun _ => False) := keeps_two hk1 ho1 (ka1 w1 _) hg3; have hcf : w3.cell? ⟨w.heap.size + 1 + 1, 10, none⟩ = some (.slice p10 n10 q10) ∧ w3.frozen? ⟨w.heap.size + 1 + 1, 10, none⟩ = false := HC.out.cellG hk3 (by omega); obtain ⟨c3, f3⟩ := hcf; obtain ⟨pv, cv, Nv, rfl⟩ : ∃ p c N, v3 = .slice p N c := (by obtain ⟨p, c, e, _⟩ := ho3.inn; exact ⟨p, c, _, e⟩)))
 rw [List.nil_append] at ho3
 have HE : Hid (∃ x' T', OEnd w (w.heap.size + 1 + 1) (w.heap.size + 1) n ⟨.slice p0 n0 q0, .slice p1 n1 q1, .slice p2 n2 q2, .slice p3 n3 q3, .slice p4 n4 q4, .slice p5 n5 q5, .slice p6 n6 q6, .slice p7 n7 q7, .slice p8 n8 q8, .slice p9 n9 q9, .slice p10 n10 q10, .slice p11 n11 q11⟩ (w3.setCell ⟨w.heap.size + 1 + 1, 10, none⟩ (.slice pv Nv cv)) x' T') :=
  ⟨_, { T with exc := T.exc ++ [y] }, HC.out.fin (i := 10) (by omega) hk3 (fun wz hz => by
   have o := HC.out.oldT HX.out hk3 wz hz
   exact ⟨o.cat, o.cls, o.joi, o.bid, o.scr, o.sta, o.ign, o.ext, o.map, o.dec, HC.out.ints ho3 (Nat.le_refl _) (by have := HQL.out; simp; omega) wz hz, o.pro⟩) ⟨Nat.le_trans HF.out.cat (by omega), Nat.le_trans HF.out.cls (by omega), Nat.le_trans HF.out.joi (by omega), Nat.le_trans HF.out.bid (by omega), Nat.le_trans HF.out.scr (by omega), Nat.le_trans HF.out.sta (by omega), Nat.le_trans HF.out.ign (by omega), Nat.le_trans HF.out.ext (by omega), Nat.le_trans HF.out.map (by omega), Nat.le_trans HF.out.dec (by omega), by simp only [List.length_append, List.length_cons, List.length_nil]; have := HF.out.exc; omega, Nat.le_trans HF.out.pro (by omega)⟩ (fun h p n c e => h p n c e)⟩
 generalize (w3.setCell ⟨w.heap.size + 1 + 1, 10, none⟩ (.slice pv Nv cv)) = wx at HE ⊢
 clear ho1 hg1 hk1 hh1 ho3 hg3 hk3 c3 f3 ct
 generalize hrb : w.heap.size + 1 = rb at HE ⊢
 generalize hgg : w.heap.size + 1 + 1 = g at HE ⊢
 obtain ⟨⟨b0, b1, b2, b3, b4, b5, b6, b7, b8, b9, b10, b11⟩, T', he⟩ := HE.out
 have htv := he.tab wx (Keeps.refl _ _)
 obtain ⟨r0, m0, c0, hsl0⟩ : Slc b0 := htv.cat.slc
 subst hsl0
 obtain ⟨r1, m1, c1, hsl1⟩ : Slc b1 := htv.cls.slc
 subst hsl1
 obtain ⟨r2, m2, c2, hsl2⟩ : Slc b2 := htv.joi.slc
 subst hsl2
 obtain ⟨r3, m3, c3, hsl3⟩ : Slc b3 := htv.bid.slc
 subst hsl3
 obtain ⟨r4, m4, c4, hsl4⟩ : Slc b4 := htv.scr.slc
 subst hsl4
 obtain ⟨r5, m5, c5, hsl5⟩ : Slc b5 := htv.sta.slc
 subst hsl5
 obtain ⟨r6, m6, c6, hsl6⟩ : Slc b6 := htv.ign.slc
 subst hsl6
 obtain ⟨r7, m7, c7, hsl7⟩ : Slc b7 := htv.ext.slc
 subst hsl7
 obtain ⟨r8, m8, c8, hsl8⟩ : Slc b8 := htv.map.slc
 subst hsl8
 obtain ⟨r9, m9, c9, hsl9⟩ : Slc b9 := htv.dec.slc
 subst hsl9
 obtain ⟨r10, m10, c10, hsl10⟩ : Slc b10 := htv.exc.slc
 subst hsl10
 obtain ⟨r11, m11, c11, hsl11⟩ : Slc b11 := htv.pro.slc
 subst hsl11
 have HEE := Lib.hid he
 obtain ⟨⟨k0, k1, k2, k3, k4, k5⟩, ⟨k6, k7, k8, k9, k10, k11⟩⟩ := he.box.load
 simp only at k0 k1 k2 k3 k4 k5 k6 k7 k8 k9 k10 k11
 obtain ⟨s0, t0⟩ := he.res 0 (by omega)
 obtain ⟨s1, t1⟩ := he.res 1 (by omega)
 obtain ⟨s2, t2⟩ := he.res 2 (by omega)
 obtain ⟨s3, t3⟩ := he.res 3 (by omega)
 obtain ⟨s4, t4⟩ := he.res 4 (by omega)
 obtain ⟨s5, t5⟩ := he.res 5 (by omega)
 obtain ⟨s6, t6⟩ := he.res 6 (by omega)
 obtain ⟨s7, t7⟩ := he.res 7 (by omega)
 obtain ⟨s8, t8⟩ := he.res 8 (by omega)
 obtain ⟨s9, t9⟩ := he.res 9 (by omega)
 obtain ⟨s10, t10⟩ := he.res 10 (by omega)
 obtain ⟨s11, t11⟩ := he.res 11 (by omega)
 have HRB : Hid (w.heap.size ≤ rb) := by unfold Hid; omega
 clear HE he htv hrb hgg
 go_wp2
 obtain ⟨hbF, hkF⟩ := store12 wx rb (.slice r0 m0 c0) (.slice r1 m1 c1) (.slice r2 m2 c2) (.slice r3 m3 c3) (.slice r4 m4 c4) (.slice r5 m5 c5) (.slice r6 m6 c6) (.slice r7 m7 c7) (.slice r8 m8 c8) (.slice r9 m9 c9) (.slice r10 m10 c10) (.slice r11 m11 c11) HEE.out.res
 generalize (World.setCell (World.setCell (World.setCell (World.setCell (World.setCell (World.setCell (World.setCell (World.setCell (World.setCell (World.setCell (World.setCell (World.setCell (wx) ⟨rb, 0, none⟩ (.slice r0 m0 c0)) ⟨rb, 1, none⟩ (.slice r1 m1 c1)) ⟨rb, 2, none⟩ (.slice r2 m2 c2)) ⟨rb, 3, none⟩ (.slice r3 m3 c3)) ⟨rb, 4, none⟩ (.slice r4 m4 c4)) ⟨rb, 5, none⟩ (.slice r5 m5 c5)) ⟨rb, 6, none⟩ (.slice r6 m6 c6)) ⟨rb, 7, none⟩ (.slice r7 m7 c7)) ⟨rb, 8, none⟩ (.slice r8 m8 c8)) ⟨rb, 9, none⟩ (.slice r9 m9 c9)) ⟨rb, 10, none⟩ (.slice r10 m10 c10)) ⟨rb, 11, none⟩ (.slice r11 m11 c11)) = WF at hbF hkF ⊢
 obtain ⟨⟨Q0, Q1, Q2, Q3, Q4, Q5⟩, ⟨Q6, Q7, Q8, Q9, Q10, Q11⟩⟩ := hbF.load
 simp only at Q0 Q1 Q2 Q3 Q4 Q5 Q6 Q7 Q8 Q9 Q10 Q11
 refine bodyPost_ret (v := .agg #[.slice r0 m0 c0, .slice r1 m1 c1, .slice r2 m2 c2, .slice r3 m3 c3, .slice r4 m4 c4, .slice r5 m5 c5, .slice r6 m6 c6, .slice r7 m7 c7, .slice r8 m8 c8, .slice r9 m9 c9, .slice r10 m10 c10, .slice r11 m11 c11]) (by simp [results, Tryz.results17, go_sem, Q0, Q1, Q2, Q3, Q4, Q5, Q6, Q7, Q8, Q9, Q10, Q11]) rfl ?_
 exact ⟨⟨.slice r0 m0 c0, .slice r1 m1 c1, .slice r2 m2 c2, .slice r3 m3 c3, .slice r4 m4 c4, .slice r5 m5 c5, .slice r6 m6 c6, .slice r7 m7 c7, .slice r8 m8 c8, .slice r9 m9 c9, .slice r10 m10 c10, .slice r11 m11 c11⟩, T', rfl, HEE.out.tab WF hkF, HEE.out.few, HEE.out.cap, HEE.out.bel.trans (hkF.below HEE.out.bel.size (fun b _ e => by have := HRB.out; omega))⟩
set_option maxRecDepth 100000 in
set_option maxHeartbeats 4000000 in
theorem other_2 (x : TV) (T : Tb) (n : Nat) (how at' v : Int) (w : World) (hx : TabV w x T) (hf : Few n T) (hn : n ≤ 1000) (hk : Hid (pickS how 12 = 2)) :
 Calls Tryz.prog 17 #[x.agg, .int .i64 how, .int .i64 at', .int .i64 v] w (OtherPost x n w) := by
 obtain ⟨a0, a1, a2, a3, a4, a5, a6, a7, a8, a9, a10, a11⟩ := x
 obtain ⟨p0, n0, q0, hsl0⟩ : Slc a0 := hx.cat.slc
 subst hsl0
 obtain ⟨p1, n1, q1, hsl1⟩ : Slc a1 := hx.cls.slc
 subst hsl1
 obtain ⟨p2, n2, q2, hsl2⟩ : Slc a2 := hx.joi.slc
 subst hsl2
 obtain ⟨p3, n3, q3, hsl3⟩ : Slc a3 := hx.bid.slc
 subst hsl3
 obtain ⟨p4, n4, q4, hsl4⟩ : Slc a4 := hx.scr.slc
 subst hsl4
 obtain ⟨p5, n5, q5, hsl5⟩ : Slc a5 := hx.sta.slc
 subst hsl5
 obtain ⟨p6, n6, q6, hsl6⟩ : Slc a6 := hx.ign.slc
 subst hsl6
 obtain ⟨p7, n7, q7, hsl7⟩ : Slc a7 := hx.ext.slc
 subst hsl7
 obtain ⟨p8, n8, q8, hsl8⟩ : Slc a8 := hx.map.slc
 subst hsl8
 obtain ⟨p9, n9, q9, hsl9⟩ : Slc a9 := hx.dec.slc
 subst hsl9
 obtain ⟨p10, n10, q10, hsl10⟩ : Slc a10 := hx.exc.slc
 subst hsl10
 obtain ⟨p11, n11, q11, hsl11⟩ : Slc a11 := hx.pro.slc
 subst hsl11
 have hC := OCase.new w ⟨.slice p0 n0 q0, .slice p1 n1 q1, .slice p2 n2 q2, .slice p3 n3 q3, .slice p4 n4 q4, .slice p5 n5 q5, .slice p6 n6 q6, .slice p7 n7 q7, .slice p8 n8 q8, .slice p9 n9 q9, .slice p10 n10 q10, .slice p11 n11 q11⟩ 26
 obtain ⟨W, hW⟩ : ∃ W, ((w.alloc (.cells #[.slice p0 n0 q0, .slice p1 n1 q1, .slice p2 n2 q2, .slice p3 n3 q3, .slice p4 n4 q4, .slice p5 n5 q5, .slice p6 n6 q6, .slice p7 n7 q7, .slice p8 n8 q8, .slice p9 n9 q9, .slice p10 n10 q10, .slice p11 n11 q11] 26)).alloc (.cells nilC 26)).alloc (.cells #[.slice p0 n0 q0, .slice p1 n1 q1, .slice p2 n2 q2, .slice p3 n3 q3, .slice p4 n4 q4, .slice p5 n5 q5, .slice p6 n6 q6, .slice p7 n7 q7, .slice p8 n8 q8, .slice p9 n9 q9, .slice p10 n10 q10, .slice p11 n11 q11] 26) = W := ⟨_, rfl⟩
 simp only [tabCells] at hC
 rw [hW] at hC
 have HC := Lib.hid hC
 have HX := Lib.hid hx
 have HF := Lib.hid hf
 obtain ⟨pp, cc, he0, hin0, hl0⟩ := hx.cat
 injection he0 with e1 e2 e3
 subst e1
 subst e3
 have hle : n0 ≤ n := by rw [e2]; exact hf.cat
 have HQL : Hid (T.cat.length = n0) := e2.symm
 have HQI := Lib.hid (hin0.below hC.bel)
 have ct : W.cell? ⟨w.heap.size, 0, none⟩ = some (.slice p0 n0 q0) := hC.cellT (by omega)
 have ct2 : ∀ o, (W.alloc o).cell? ⟨w.heap.size, 0, none⟩ = some (.slice p0 n0 q0) := fun o => (Keeps.alloc W o).cell ct (fun e => e)
 clear hin0 hl0 e2
 obtain ⟨z, HZ, y0, y1⟩ := pick_nm v 300 (by omega)
 go_enter Tryz.func17, Tryz.ntmps17
 go_wp2_with fail
 refine (pick_at how 12 2 _ (by omega) (by omega) hk).mono ?_
 rintro e wz ⟨rfl, rfl⟩
 clear hW hC hx hf hk
 go_upto_region 9 with (fail)
 go_region_law (first
  | (go_simp
     go_at_call 22
     refine (pick_at v 300 z _ (by omega) (by omega) HZ).mono ?_
     rintro e wn ⟨rfl, rfl⟩)
  | (refine step_append_spans (by rfl) _ _ (by rfl) W.heap.size (.slice (some ⟨W.heap.size, 0, none⟩) 1 1) [(z, z, 1)] (by rfl) (by first | exact World.ownsRow_lit (base := W.heap.size) (e := 45) (size := 3) W #[.int .i64 z, .int .i64 z, .int .i64 1] 1 (Nat.le_refl _) (by unfold maxLen; omega) rfl | exact World.ownsRow_lit (base := W.heap.size) (e := 45) (size := 3) W.drew #[.int .i64 z, .int .i64 z, .int .i64 1] 1 (Nat.le_refl _) (by unfold maxLen; omega) rfl) p0 n0 q0 T.cat HQL.out (by rfl) (by first | exact HQI.out.alloc _ | exact HQI.out) (by have := HQL.out; simp; omega) (by simp) ?_
     intro v3 w3 ho3 hg3
     have hk3 : Keeps W w3 (fun _ => False) := keeps_lit hg3
     have hcf : w3.cell? ⟨w.heap.size + 1 + 1, 0, none⟩ = some (.slice p0 n0 q0) ∧ w3.frozen? ⟨w.heap.size + 1 + 1, 0, none⟩ = false := HC.out.cellG hk3 (by omega)
     obtain ⟨c3, f3⟩ := hcf
     obtain ⟨pv, cv, Nv, rfl⟩ : ∃ p c N, v3 = .slice p N c := by obtain ⟨p, c, e, _⟩ := ho3.inn; exact ⟨p, c, _, e⟩))
 all_goals
  have HE : Hid (∃ x' T', OEnd w (w.heap.size + 1 + 1) (w.heap.size + 1) n ⟨.slice p0 n0 q0, .slice p1 n1 q1, .slice p2 n2 q2, .slice p3 n3 q3, .slice p4 n4 q4, .slice p5 n5 q5, .slice p6 n6 q6, .slice p7 n7 q7, .slice p8 n8 q8, .slice p9 n9 q9, .slice p10 n10 q10, .slice p11 n11 q11⟩ (w3.setCell ⟨w.heap.size + 1 + 1, 0, none⟩ (.slice pv Nv cv)) x' T') :=
   ⟨_, { T with cat := [(z, z, 1)] ++ T.cat }, HC.out.fin (i := 0) (by omega) hk3 (fun wz hz => by
    have o := HC.out.oldT HX.out hk3 wz hz
    exact ⟨HC.out.spans ho3 (Nat.le_refl _) (by have := HQL.out; simp; omega) wz hz, o.cls, o.joi, o.bid, o.scr, o.sta, o.ign, o.ext, o.map, o.dec, o.exc, o.pro⟩) ⟨by simp only [List.length_append, List.length_cons, List.length_nil]; have := HF.out.cat; omega, Nat.le_trans HF.out.cls (by omega), Nat.le_trans HF.out.joi (by omega), Nat.le_trans HF.out.bid (by omega), Nat.le_trans HF.out.scr (by omega), Nat.le_trans HF.out.sta (by omega), Nat.le_trans HF.out.ign (by omega), Nat.le_trans HF.out.ext (by omega), Nat.le_trans HF.out.map (by omega), Nat.le_trans HF.out.dec (by omega), Nat.le_trans HF.out.exc (by omega), Nat.le_trans HF.out.pro (by omega)⟩ (fun h p n c e => h p n c e)⟩
  generalize (w3.setCell ⟨w.heap.size + 1 + 1, 0, none⟩ (.slice pv Nv cv)) = wx at HE ⊢
  clear ho3 hg3 hk3 c3 f3 ct ct2
  generalize hrb : w.heap.size + 1 = rb at HE ⊢
  generalize hgg : w.heap.size + 1 + 1 = g at HE ⊢
  obtain ⟨⟨b0, b1, b2, b3, b4, b5, b6, b7, b8, b9, b10, b11⟩, T', he⟩ := HE.out
  have htv := he.tab wx (Keeps.refl _ _)
  obtain ⟨r0, m0, c0, hsl0⟩ : Slc b0 := htv.cat.slc
  subst hsl0
  obtain ⟨r1, m1, c1, hsl1⟩ : Slc b1 := htv.cls.slc
  subst hsl1
  obtain ⟨r2, m2, c2, hsl2⟩ : Slc b2 := htv.joi.slc
  subst hsl2
  obtain ⟨r3, m3, c3, hsl3⟩ : Slc b3 := htv.bid.slc
  subst hsl3
  obtain ⟨r4, m4, c4, hsl4⟩ : Slc b4 := htv.scr.slc
  subst hsl4
  obtain ⟨r5, m5, c5, hsl5⟩ : Slc b5 := htv.sta.slc
  subst hsl5
  obtain ⟨r6, m6, c6, hsl6⟩ : Slc b6 := htv.ign.slc
  subst hsl6
  obtain ⟨r7, m7, c7, hsl7⟩ : Slc b7 := htv.ext.slc
  subst hsl7
  obtain ⟨r8, m8, c8, hsl8⟩ : Slc b8 := htv.map.slc
  subst hsl8
  obtain ⟨r9, m9, c9, hsl9⟩ : Slc b9 := htv.dec.slc
  subst hsl9
  obtain ⟨r10, m10, c10, hsl10⟩ : Slc b10 := htv.exc.slc
  subst hsl10
  obtain ⟨r11, m11, c11, hsl11⟩ : Slc b11 := htv.pro.slc
  subst hsl11
  have HEE := Lib.hid he
  obtain ⟨⟨k0, k1, k2, k3, k4, k5⟩, ⟨k6, k7, k8, k9, k10, k11⟩⟩ := he.box.load
  simp only at k0 k1 k2 k3 k4 k5 k6 k7 k8 k9 k10 k11
  obtain ⟨s0, t0⟩ := he.res 0 (by omega)
  obtain ⟨s1, t1⟩ := he.res 1 (by omega)
  obtain ⟨s2, t2⟩ := he.res 2 (by omega)
  obtain ⟨s3, t3⟩ := he.res 3 (by omega)
  obtain ⟨s4, t4⟩ := he.res 4 (by omega)
  obtain ⟨s5, t5⟩ := he.res 5 (by omega)
  obtain ⟨s6, t6⟩ := he.res 6 (by omega)
  obtain ⟨s7, t7⟩ := he.res 7 (by omega)
  obtain ⟨s8, t8⟩ := he.res 8 (by omega)
  obtain ⟨s9, t9⟩ := he.res 9 (by omega)
  obtain ⟨s10, t10⟩ := he.res 10 (by omega)
  obtain ⟨s11, t11⟩ := he.res 11 (by omega)
  have HRB : Hid (w.heap.size ≤ rb) := by unfold Hid; omega
  clear HE he htv hrb hgg
  go_wp2
  obtain ⟨hbF, hkF⟩ := store12 wx rb (.slice r0 m0 c0) (.slice r1 m1 c1) (.slice r2 m2 c2) (.slice r3 m3 c3) (.slice r4 m4 c4) (.slice r5 m5 c5) (.slice r6 m6 c6) (.slice r7 m7 c7) (.slice r8 m8 c8) (.slice r9 m9 c9) (.slice r10 m10 c10) (.slice r11 m11 c11) HEE.out.res
  generalize (World.setCell (World.setCell (World.setCell (World.setCell (World.setCell (World.setCell (World.setCell (World.setCell (World.setCell (World.setCell (World.setCell (World.setCell (wx) ⟨rb, 0, none⟩ (.slice r0 m0 c0)) ⟨rb, 1, none⟩ (.slice r1 m1 c1)) ⟨rb, 2, none⟩ (.slice r2 m2 c2)) ⟨rb, 3, none⟩ (.slice r3 m3 c3)) ⟨rb, 4, none⟩ (.slice r4 m4 c4)) ⟨rb, 5, none⟩ (.slice r5 m5 c5)) ⟨rb, 6, none⟩ (.slice r6 m6 c6)) ⟨rb, 7, none⟩ (.slice r7 m7 c7)) ⟨rb, 8, none⟩ (.slice r8 m8 c8)) ⟨rb, 9, none⟩ (.slice r9 m9 c9)) ⟨rb, 10, none⟩ (.slice r10 m10 c10)) ⟨rb, 11, none⟩ (.slice r11 m11 c11)) = WF at hbF hkF ⊢
  obtain ⟨⟨Q0, Q1, Q2, Q3, Q4, Q5⟩, ⟨Q6, Q7, Q8, Q9, Q10, Q11⟩⟩ := hbF.load
  simp only at Q0 Q1 Q2 Q3 Q4 Q5 Q6 Q7 Q8 Q9 Q10 Q11
  refine bodyPost_ret (v := .agg #[.slice r0 m0 c0, .slice r1 m1 c1, .slice r2 m2 c2, .slice r3 m3 c3, .slice r4 m4 c4, .slice r5 m5 c5, .slice r6 m6 c6, .slice r7 m7 c7, .slice r8 m8 c8, .slice r9 m9 c9, .slice r10 m10 c10, .slice r11 m11 c11]) (by simp [results, Tryz.results17, go_sem, Q0, Q1, Q2, Q3, Q4, Q5, Q6, Q7, Q8, Q9, Q10, Q11]) rfl ?_
  exact ⟨⟨.slice r0 m0 c0, .slice r1 m1 c1, .slice r2 m2 c2, .slice r3 m3 c3, .slice r4 m4 c4, .slice r5 m5 c5, .slice r6 m6 c6, .slice r7 m7 c7, .slice r8 m8 c8, .slice r9 m9 c9, .slice r10 m10 c10, .slice r11 m11 c11⟩, T', rfl, HEE.out.tab WF hkF, HEE.out.few, HEE.out.cap, HEE.out.bel.trans (hkF.below HEE.out.bel.size (fun b _ e => by have := HRB.out; omega))⟩
set_option maxRecDepth 100000 in
set_option maxHeartbeats 4000000 in
theorem other_10 (x : TV) (T : Tb) (n : Nat) (how at' v : Int) (w : World) (hx : TabV w x T) (hf : Few n T) (hn : n ≤ 1000) (hk : Hid (pickS how 12 = 10)) :
 Calls Tryz.prog 17 #[x.agg, .int .i64 how, .int .i64 at', .int .i64 v] w (OtherPost x n w) := by
 obtain ⟨a0, a1, a2, a3, a4, a5, a6, a7, a8, a9, a10, a11⟩ := x
 obtain ⟨p0, n0, q0, hsl0⟩ : Slc a0 := hx.cat.slc
 subst hsl0
 obtain ⟨p1, n1, q1, hsl1⟩ : Slc a1 := hx.cls.slc
 subst hsl1
 obtain ⟨p2, n2, q2, hsl2⟩ : Slc a2 := hx.joi.slc
 subst hsl2
 obtain ⟨p3, n3, q3, hsl3⟩ : Slc a3 := hx.bid.slc
 subst hsl3
 obtain ⟨p4, n4, q4, hsl4⟩ : Slc a4 := hx.scr.slc
 subst hsl4
 obtain ⟨p5, n5, q5, hsl5⟩ : Slc a5 := hx.sta.slc
 subst hsl5
 obtain ⟨p6, n6, q6, hsl6⟩ : Slc a6 := hx.ign.slc
 subst hsl6
 obtain ⟨p7, n7, q7, hsl7⟩ : Slc a7 := hx.ext.slc
 subst hsl7
 obtain ⟨p8, n8, q8, hsl8⟩ : Slc a8 := hx.map.slc
 subst hsl8
 obtain ⟨p9, n9, q9, hsl9⟩ : Slc a9 := hx.dec.slc
 subst hsl9
 obtain ⟨p10, n10, q10, hsl10⟩ : Slc a10 := hx.exc.slc
 subst hsl10
 obtain ⟨p11, n11, q11, hsl11⟩ : Slc a11 := hx.pro.slc
 subst hsl11
 have hC := OCase.new w ⟨.slice p0 n0 q0, .slice p1 n1 q1, .slice p2 n2 q2, .slice p3 n3 q3, .slice p4 n4 q4, .slice p5 n5 q5, .slice p6 n6 q6, .slice p7 n7 q7, .slice p8 n8 q8, .slice p9 n9 q9, .slice p10 n10 q10, .slice p11 n11 q11⟩ 26
 obtain ⟨W, hW⟩ : ∃ W, ((w.alloc (.cells #[.slice p0 n0 q0, .slice p1 n1 q1, .slice p2 n2 q2, .slice p3 n3 q3, .slice p4 n4 q4, .slice p5 n5 q5, .slice p6 n6 q6, .slice p7 n7 q7, .slice p8 n8 q8, .slice p9 n9 q9, .slice p10 n10 q10, .slice p11 n11 q11] 26)).alloc (.cells nilC 26)).alloc (.cells #[.slice p0 n0 q0, .slice p1 n1 q1, .slice p2 n2 q2, .slice p3 n3 q3, .slice p4 n4 q4, .slice p5 n5 q5, .slice p6 n6 q6, .slice p7 n7 q7, .slice p8 n8 q8, .slice p9 n9 q9, .slice p10 n10 q10, .slice p11 n11 q11] 26) = W := ⟨_, rfl⟩
 simp only [tabCells] at hC
 rw [hW] at hC
 have HC := Lib.hid hC
 have HX := Lib.hid hx
 have HF := Lib.hid hf
 obtain ⟨pp, cc, he2, hin2, hl2⟩ := hx.joi
 injection he2 with e1 e2 e3
 subst e1
 subst e3
 have hle : n2 ≤ n := by rw [e2]; exact hf.joi
 have HQL : Hid (T.joi.length = n2) := e2.symm
 have HQI := Lib.hid (hin2.below hC.bel)
 have ct : W.cell? ⟨w.heap.size, 2, none⟩ = some (.slice p2 n2 q2) := hC.cellT (by omega)
 clear hin2 hl2 e2
 go_enter Tryz.func17, Tryz.ntmps17
 go_wp2_with fail
 refine (pick_at how 12 10 _ (by omega) (by omega) hk).mono ?_
 rintro e wz ⟨rfl, rfl⟩
 clear hW hC hx hf hk
 go_upto_region 26 with (at_builtin; refine wpList_append_spans (.const (.slice none 0 0)) (.tmp 175) rfl rfl W.heap.size (.slice none 0 0) [] rfl (Spans.nil _ _) p2 n2 q2 T.joi HQL.out rfl HQI.out (by have := HQL.out; simp; omega) (Nat.le_refl _) ?_; intro v3 w3 ho3 hg3; have hk3 : Keeps W w3 (fun _ => False) := keeps_g hg3; have hcf : w3.cell? ⟨w.heap.size + 1 + 1, 2, none⟩ = some (.slice p2 n2 q2) ∧ w3.frozen? ⟨w.heap.size + 1 + 1, 2, none⟩ = false := HC.out.cellG hk3 (by omega); obtain ⟨c3, f3⟩ := hcf; obtain ⟨pv, cv, rfl⟩ : ∃ p c, v3 = .slice p n2 c := (by obtain ⟨p, c, e, _⟩ := ho3.inn; exact ⟨p, c, by rw [e, List.nil_append, HQL.out]⟩))
 rw [List.nil_append] at ho3
 have hst := Sets.store w3 (w.heap.size + 1 + 1) 2 (.slice pv n2 cv) _ c3
 have hbx := (HC.out.boxF.keeps hk3 (fun e => e)).sets hst
 have hkx : Keeps W (w3.setCell ⟨w.heap.size + 1 + 1, 2, none⟩ (.slice pv n2 cv)) (fun b => b = w.heap.size + 1 + 1) := hk3.trans hst.keep (fun _ _ e => e.elim) (fun _ _ e => e)
 have hlt := HC.out.lt
 have hox : Spans (w3.setCell ⟨w.heap.size + 1 + 1, 2, none⟩ (.slice pv n2 cv)) W.heap.size (.slice pv n2 cv) T.joi := hst.keep.owns ho3 (fun k hk e => by have := World.ownsRow.lt ho3 k hk; omega)
 have y2 : (w3.setCell ⟨w.heap.size + 1 + 1, 2, none⟩ (.slice pv n2 cv)).cell? ⟨w.heap.size + 1 + 1, 2, none⟩ = some (.slice pv n2 cv) := hst.cell
 generalize (w3.setCell ⟨w.heap.size + 1 + 1, 2, none⟩ (.slice pv n2 cv)) = w4 at hbx hkx hox y2 ⊢
 clear hst c3 f3 ho3 hg3 hk3 ct
 have HBX := Lib.hid hbx
 have HKX := Lib.hid hkx
 have HOX := Lib.hid hox
 clear hbx hkx hox
 by_cases h0 : n2 = 0
 ·have h1 : decide ((0 : Int) < (n2 : Int)) = false := decide_eq_false (by omega)
  have h2 : ((n2 : Int) ≤ 0) := by omega
  go_upto_region 28 with (fail)
  have HE : Hid (∃ x' T', OEnd w (w.heap.size + 1 + 1) (w.heap.size + 1) n ⟨.slice p0 n0 q0, .slice p1 n1 q1, .slice p2 n2 q2, .slice p3 n3 q3, .slice p4 n4 q4, .slice p5 n5 q5, .slice p6 n6 q6, .slice p7 n7 q7, .slice p8 n8 q8, .slice p9 n9 q9, .slice p10 n10 q10, .slice p11 n11 q11⟩ w4 x' T') :=
   ⟨_, T, HC.out.fin_at HBX.out HKX.out (fun wz hz => by
    have o := HC.out.oldX HX.out HKX.out wz hz
    exact ⟨o.cat, o.cls, HC.out.spansX HOX.out (Nat.le_refl _) (by have := HQL.out; omega) wz hz, o.bid, o.scr, o.sta, o.ign, o.ext, o.map, o.dec, o.exc, o.pro⟩) ⟨Nat.le_trans HF.out.cat (by omega), Nat.le_trans HF.out.cls (by omega), Nat.le_trans HF.out.joi (by omega), Nat.le_trans HF.out.bid (by omega), Nat.le_trans HF.out.scr (by omega), Nat.le_trans HF.out.sta (by omega), Nat.le_trans HF.out.ign (by omega), Nat.le_trans HF.out.ext (by omega), Nat.le_trans HF.out.map (by omega), Nat.le_trans HF.out.dec (by omega), Nat.le_trans HF.out.exc (by omega), Nat.le_trans HF.out.pro (by omega)⟩ (fun h p n c e => h p n c e)⟩
  clear HBX HKX HOX y2
  generalize w4 = wx at HE ⊢
  generalize hrb : w.heap.size + 1 = rb at HE ⊢
  generalize hgg : w.heap.size + 1 + 1 = g at HE ⊢
  obtain ⟨⟨b0, b1, b2, b3, b4, b5, b6, b7, b8, b9, b10, b11⟩, T', he⟩ := HE.out
  have htv := he.tab wx (Keeps.refl _ _)
  obtain ⟨r0, m0, c0, hsl0⟩ : Slc b0 := htv.cat.slc
  subst hsl0
  obtain ⟨r1, m1, c1, hsl1⟩ : Slc b1 := htv.cls.slc
  subst hsl1
  obtain ⟨r2, m2, c2, hsl2⟩ : Slc b2 := htv.joi.slc
  subst hsl2
  obtain ⟨r3, m3, c3, hsl3⟩ : Slc b3 := htv.bid.slc
  subst hsl3
  obtain ⟨r4, m4, c4, hsl4⟩ : Slc b4 := htv.scr.slc
  subst hsl4
  obtain ⟨r5, m5, c5, hsl5⟩ : Slc b5 := htv.sta.slc
  subst hsl5
  obtain ⟨r6, m6, c6, hsl6⟩ : Slc b6 := htv.ign.slc
  subst hsl6
  obtain ⟨r7, m7, c7, hsl7⟩ : Slc b7 := htv.ext.slc
  subst hsl7
  obtain ⟨r8, m8, c8, hsl8⟩ : Slc b8 := htv.map.slc
  subst hsl8
  obtain ⟨r9, m9, c9, hsl9⟩ : Slc b9 := htv.dec.slc
  subst hsl9
  obtain ⟨r10, m10, c10, hsl10⟩ : Slc b10 := htv.exc.slc
  subst hsl10
  obtain ⟨r11, m11, c11, hsl11⟩ : Slc b11 := htv.pro.slc
  subst hsl11
  have HEE := Lib.hid he
  obtain ⟨⟨k0, k1, k2, k3, k4, k5⟩, ⟨k6, k7, k8, k9, k10, k11⟩⟩ := he.box.load
  simp only at k0 k1 k2 k3 k4 k5 k6 k7 k8 k9 k10 k11
  obtain ⟨s0, t0⟩ := he.res 0 (by omega)
  obtain ⟨s1, t1⟩ := he.res 1 (by omega)
  obtain ⟨s2, t2⟩ := he.res 2 (by omega)
  obtain ⟨s3, t3⟩ := he.res 3 (by omega)
  obtain ⟨s4, t4⟩ := he.res 4 (by omega)
  obtain ⟨s5, t5⟩ := he.res 5 (by omega)
  obtain ⟨s6, t6⟩ := he.res 6 (by omega)
  obtain ⟨s7, t7⟩ := he.res 7 (by omega)
  obtain ⟨s8, t8⟩ := he.res 8 (by omega)
  obtain ⟨s9, t9⟩ := he.res 9 (by omega)
  obtain ⟨s10, t10⟩ := he.res 10 (by omega)
  obtain ⟨s11, t11⟩ := he.res 11 (by omega)
  have HRB : Hid (w.heap.size ≤ rb) := by unfold Hid; omega
  clear HE he htv hrb hgg
  go_wp2
  obtain ⟨hbF, hkF⟩ := store12 wx rb (.slice r0 m0 c0) (.slice r1 m1 c1) (.slice r2 m2 c2) (.slice r3 m3 c3) (.slice r4 m4 c4) (.slice r5 m5 c5) (.slice r6 m6 c6) (.slice r7 m7 c7) (.slice r8 m8 c8) (.slice r9 m9 c9) (.slice r10 m10 c10) (.slice r11 m11 c11) HEE.out.res
  generalize (World.setCell (World.setCell (World.setCell (World.setCell (World.setCell (World.setCell (World.setCell (World.setCell (World.setCell (World.setCell (World.setCell (World.setCell (wx) ⟨rb, 0, none⟩ (.slice r0 m0 c0)) ⟨rb, 1, none⟩ (.slice r1 m1 c1)) ⟨rb, 2, none⟩ (.slice r2 m2 c2)) ⟨rb, 3, none⟩ (.slice r3 m3 c3)) ⟨rb, 4, none⟩ (.slice r4 m4 c4)) ⟨rb, 5, none⟩ (.slice r5 m5 c5)) ⟨rb, 6, none⟩ (.slice r6 m6 c6)) ⟨rb, 7, none⟩ (.slice r7 m7 c7)) ⟨rb, 8, none⟩ (.slice r8 m8 c8)) ⟨rb, 9, none⟩ (.slice r9 m9 c9)) ⟨rb, 10, none⟩ (.slice r10 m10 c10)) ⟨rb, 11, none⟩ (.slice r11 m11 c11)) = WF at hbF hkF ⊢
  obtain ⟨⟨Q0, Q1, Q2, Q3, Q4, Q5⟩, ⟨Q6, Q7, Q8, Q9, Q10, Q11⟩⟩ := hbF.load
  simp only at Q0 Q1 Q2 Q3 Q4 Q5 Q6 Q7 Q8 Q9 Q10 Q11
  refine bodyPost_ret (v := .agg #[.slice r0 m0 c0, .slice r1 m1 c1, .slice r2 m2 c2, .slice r3 m3 c3, .slice r4 m4 c4, .slice r5 m5 c5, .slice r6 m6 c6, .slice r7 m7 c7, .slice r8 m8 c8, .slice r9 m9 c9, .slice r10 m10 c10, .slice r11 m11 c11]) (by simp [results, Tryz.results17, go_sem, Q0, Q1, Q2, Q3, Q4, Q5, Q6, Q7, Q8, Q9, Q10, Q11]) rfl ?_
  exact ⟨⟨.slice r0 m0 c0, .slice r1 m1 c1, .slice r2 m2 c2, .slice r3 m3 c3, .slice r4 m4 c4, .slice r5 m5 c5, .slice r6 m6 c6, .slice r7 m7 c7, .slice r8 m8 c8, .slice r9 m9 c9, .slice r10 m10 c10, .slice r11 m11 c11⟩, T', rfl, HEE.out.tab WF hkF, HEE.out.few, HEE.out.cap, HEE.out.bel.trans (hkF.below HEE.out.bel.size (fun b _ e => by have := HRB.out; omega))⟩
 ·have h1 : 0 < n2 := by omega
  have hd : decide ((0 : Int) < (n2 : Int)) = true := decide_eq_true (by omega)
  have hi0 : (0 : Int) < (n2 : Int) := by omega
  clear h0
  obtain ⟨z0, HZ0, hz0, hz1⟩ := pick_nm at' n2 (by omega)
  obtain ⟨z, rfl⟩ : ∃ z : Nat, z0 = z := ⟨z0.toNat, by omega⟩
  obtain ⟨y, HY, hy0, hy1⟩ := pick_nm v 8 (by omega)
  have hzl : z < n2 := by omega
  obtain ⟨gr, rfl, hgr, cv2, fv2⟩ := HOX.out.cellV z (by rw [HQL.out]; exact hzl)
  go_upto_region 27 with (fail)
  have hq : Keeps w4 w4.drew (fun _ => False) := ⟨rfl, rfl, rfl, Nat.le_refl _, fun _ _ _ => rfl⟩
  have HBX2 := Lib.hid (HBX.out.keeps hq (fun e => e))
  have HKX2 := Lib.hid (HKX.out.trans hq (fun _ _ e => e) (fun _ _ e => e.elim))
  have HOX2 : Hid (Spans w4.drew W.heap.size (.slice (some ⟨gr, 0, none⟩) n2 cv) T.joi) := HOX.out
  go_still_tail 11, (by kernel_rfl)
  still_call ((pick_at at' n2 z _ (by omega) (by omega) HZ0).mono fun _ _ h => ⟨h.1, h.2.symm⟩)
  repeat still_step
  still_call ((pick_at v 8 y _ (by omega) (by omega) HY).mono fun _ _ h => ⟨h.1, h.2.symm⟩)
  repeat still_step
  refine wpStill_nil ?_
  change wpList _ _ _ _ _ w4.drew
  have y3 : w4.drew.cell? ⟨w.heap.size + 1 + 1, 2, none⟩ = some (.slice (some ⟨gr, 0, none⟩) n2 cv) := y2
  have cv3 : w4.drew.cell? ⟨gr, z * 3 + 2, none⟩ = some (.int .i64 (T.joi.getD z sp0).2.2) := cv2
  have fv3 : w4.drew.frozen? ⟨gr, z * 3 + 2, none⟩ = false := fv2
  clear y2 cv2 fv2 HBX HKX HOX hq
  generalize w4.drew = w5 at HBX2 HKX2 HOX2 y3 cv3 fv3 ⊢
  go_upto_region 28 with (fail)
  have hsr := Keeps.store w5 gr (z * 3 + 2) (.int .i64 y)
  have HE : Hid (∃ x' T', OEnd w (w.heap.size + 1 + 1) (w.heap.size + 1) n ⟨.slice p0 n0 q0, .slice p1 n1 q1, .slice p2 n2 q2, .slice p3 n3 q3, .slice p4 n4 q4, .slice p5 n5 q5, .slice p6 n6 q6, .slice p7 n7 q7, .slice p8 n8 q8, .slice p9 n9 q9, .slice p10 n10 q10, .slice p11 n11 q11⟩ (w5.setCell ⟨gr, z * 3 + 2, none⟩ (.int .i64 y)) x' T') :=
   ⟨_, { T with joi := setV T.joi z y }, HC.out.fin_at (HBX2.out.keeps hsr (fun e => by omega)) (HKX2.out.trans hsr (fun _ _ e => e) (fun b hb e => by omega)) (fun wz hz => by
    have o := HC.out.oldX HX.out (HKX2.out.trans hsr (fun _ _ e => e) (fun b hb e => by omega)) wz hz
    exact ⟨o.cat, o.cls, HC.out.spansX (HOX2.out.setV HQL.out.symm z (by rw [HQL.out]; exact hzl) y) (Nat.le_refl _) (by have := HQL.out; simp [setV]; omega) wz hz, o.bid, o.scr, o.sta, o.ign, o.ext, o.map, o.dec, o.exc, o.pro⟩) ⟨Nat.le_trans HF.out.cat (by omega), Nat.le_trans HF.out.cls (by omega), by simp only [setV, List.length_set]; exact Nat.le_trans HF.out.joi (by omega), Nat.le_trans HF.out.bid (by omega), Nat.le_trans HF.out.scr (by omega), Nat.le_trans HF.out.sta (by omega), Nat.le_trans HF.out.ign (by omega), Nat.le_trans HF.out.ext (by omega), Nat.le_trans HF.out.map (by omega), Nat.le_trans HF.out.dec (by omega), Nat.le_trans HF.out.exc (by omega), Nat.le_trans HF.out.pro (by omega)⟩ (fun h p n c e => h p n c e)⟩
  generalize (w5.setCell ⟨gr, z * 3 + 2, none⟩ (.int .i64 y)) = wx at HE ⊢
  clear hsr y3 cv3 fv3 HBX2 HKX2 HOX2
  generalize hrb : w.heap.size + 1 = rb at HE ⊢
  generalize hgg : w.heap.size + 1 + 1 = g at HE ⊢
  obtain ⟨⟨b0, b1, b2, b3, b4, b5, b6, b7, b8, b9, b10, b11⟩, T', he⟩ := HE.out
  have htv := he.tab wx (Keeps.refl _ _)
  obtain ⟨r0, m0, c0, hsl0⟩ : Slc b0 := htv.cat.slc
  subst hsl0
  obtain ⟨r1, m1, c1, hsl1⟩ : Slc b1 := htv.cls.slc
  subst hsl1
  obtain ⟨r2, m2, c2, hsl2⟩ : Slc b2 := htv.joi.slc
  subst hsl2
  obtain ⟨r3, m3, c3, hsl3⟩ : Slc b3 := htv.bid.slc
  subst hsl3
  obtain ⟨r4, m4, c4, hsl4⟩ : Slc b4 := htv.scr.slc
  subst hsl4
  obtain ⟨r5, m5, c5, hsl5⟩ : Slc b5 := htv.sta.slc
  subst hsl5
  obtain ⟨r6, m6, c6, hsl6⟩ : Slc b6 := htv.ign.slc
  subst hsl6
  obtain ⟨r7, m7, c7, hsl7⟩ : Slc b7 := htv.ext.slc
  subst hsl7
  obtain ⟨r8, m8, c8, hsl8⟩ : Slc b8 := htv.map.slc
  subst hsl8
  obtain ⟨r9, m9, c9, hsl9⟩ : Slc b9 := htv.dec.slc
  subst hsl9
  obtain ⟨r10, m10, c10, hsl10⟩ : Slc b10 := htv.exc.slc
  subst hsl10
  obtain ⟨r11, m11, c11, hsl11⟩ : Slc b11 := htv.pro.slc
  subst hsl11
  have HEE := Lib.hid he
  obtain ⟨⟨k0, k1, k2, k3, k4, k5⟩, ⟨k6, k7, k8, k9, k10, k11⟩⟩ := he.box.load
  simp only at k0 k1 k2 k3 k4 k5 k6 k7 k8 k9 k10 k11
  obtain ⟨s0, t0⟩ := he.res 0 (by omega)
  obtain ⟨s1, t1⟩ := he.res 1 (by omega)
  obtain ⟨s2, t2⟩ := he.res 2 (by omega)
  obtain ⟨s3, t3⟩ := he.res 3 (by omega)
  obtain ⟨s4, t4⟩ := he.res 4 (by omega)
  obtain ⟨s5, t5⟩ := he.res 5 (by omega)
  obtain ⟨s6, t6⟩ := he.res 6 (by omega)
  obtain ⟨s7, t7⟩ := he.res 7 (by omega)
  obtain ⟨s8, t8⟩ := he.res 8 (by omega)
  obtain ⟨s9, t9⟩ := he.res 9 (by omega)
  obtain ⟨s10, t10⟩ := he.res 10 (by omega)
  obtain ⟨s11, t11⟩ := he.res 11 (by omega)
  have HRB : Hid (w.heap.size ≤ rb) := by unfold Hid; omega
  clear HE he htv hrb hgg
  go_wp2
  obtain ⟨hbF, hkF⟩ := store12 wx rb (.slice r0 m0 c0) (.slice r1 m1 c1) (.slice r2 m2 c2) (.slice r3 m3 c3) (.slice r4 m4 c4) (.slice r5 m5 c5) (.slice r6 m6 c6) (.slice r7 m7 c7) (.slice r8 m8 c8) (.slice r9 m9 c9) (.slice r10 m10 c10) (.slice r11 m11 c11) HEE.out.res
  generalize (World.setCell (World.setCell (World.setCell (World.setCell (World.setCell (World.setCell (World.setCell (World.setCell (World.setCell (World.setCell (World.setCell (World.setCell (wx) ⟨rb, 0, none⟩ (.slice r0 m0 c0)) ⟨rb, 1, none⟩ (.slice r1 m1 c1)) ⟨rb, 2, none⟩ (.slice r2 m2 c2)) ⟨rb, 3, none⟩ (.slice r3 m3 c3)) ⟨rb, 4, none⟩ (.slice r4 m4 c4)) ⟨rb, 5, none⟩ (.slice r5 m5 c5)) ⟨rb, 6, none⟩ (.slice r6 m6 c6)) ⟨rb, 7, none⟩ (.slice r7 m7 c7)) ⟨rb, 8, none⟩ (.slice r8 m8 c8)) ⟨rb, 9, none⟩ (.slice r9 m9 c9)) ⟨rb, 10, none⟩ (.slice r10 m10 c10)) ⟨rb, 11, none⟩ (.slice r11 m11 c11)) = WF at hbF hkF ⊢
  obtain ⟨⟨Q0, Q1, Q2, Q3, Q4, Q5⟩, ⟨Q6, Q7, Q8, Q9, Q10, Q11⟩⟩ := hbF.load
  simp only at Q0 Q1 Q2 Q3 Q4 Q5 Q6 Q7 Q8 Q9 Q10 Q11
  refine bodyPost_ret (v := .agg #[.slice r0 m0 c0, .slice r1 m1 c1, .slice r2 m2 c2, .slice r3 m3 c3, .slice r4 m4 c4, .slice r5 m5 c5, .slice r6 m6 c6, .slice r7 m7 c7, .slice r8 m8 c8, .slice r9 m9 c9, .slice r10 m10 c10, .slice r11 m11 c11]) (by simp [results, Tryz.results17, go_sem, Q0, Q1, Q2, Q3, Q4, Q5, Q6, Q7, Q8, Q9, Q10, Q11]) rfl ?_
  exact ⟨⟨.slice r0 m0 c0, .slice r1 m1 c1, .slice r2 m2 c2, .slice r3 m3 c3, .slice r4 m4 c4, .slice r5 m5 c5, .slice r6 m6 c6, .slice r7 m7 c7, .slice r8 m8 c8, .slice r9 m9 c9, .slice r10 m10 c10, .slice r11 m11 c11⟩, T', rfl, HEE.out.tab WF hkF, HEE.out.few, HEE.out.cap, HEE.out.bel.trans (hkF.below HEE.out.bel.size (fun b _ e => by have := HRB.out; omega))⟩
def R9 (W : World) (tb : Nat) (p9 : Option Addr) (n9 q9 : Nat) (Q : List Mq) (vv aa : Int) (z z' : Nat) (y y' : Int) : Nat → Value → World → Prop
 | 0, v, w => v = .pointer (some ⟨tb, 9, none⟩)
 | 1, v, w => v = .slice p9 n9 q9
 | 2, v, w => RowQ w W.heap.size v Q
 | 3, v, w => ∃ b, v = .slice (some ⟨b, 0, none⟩) 3 3 ∧ IntsIn w (some ⟨b, 0, none⟩) [769, 776, 803]
 | 4, v, w => v = .int .i64 vv
 | 5, v, w => v = .int .i64 z
 | 6, v, w => ∃ b, v = .pointer (some ⟨b, z, none⟩) ∧ w.cell? ⟨b, z, none⟩ = some (.int .i64 y)
 | 7, v, w => v = .int .i64 y
 | 8, v, w => ∃ b, v = .slice (some ⟨b, 0, none⟩) 2 2 ∧ W.heap.size ≤ b ∧ Blk w b #[.int .i64 97, .int .i64 y]
 | 9, v, w => ∃ b, v = .agg #[.int .i64 131072, .slice (some ⟨b, 0, none⟩) 2 2] ∧ W.heap.size ≤ b ∧ Blk w b #[.int .i64 97, .int .i64 y]
 | 10, v, w => ∃ b, v = .slice (some ⟨b, 0, none⟩) 3 3 ∧ IntsIn w (some ⟨b, 0, none⟩) [769, 776, 803]
 | 11, v, w => v = .int .i64 aa
 | 12, v, w => v = .int .i64 z'
 | 13, v, w => ∃ b, v = .pointer (some ⟨b, z', none⟩) ∧ w.cell? ⟨b, z', none⟩ = some (.int .i64 y')
 | 14, v, w => v = .int .i64 y'
 | 15, v, w => ∃ b, v = .slice (some ⟨b, 0, none⟩) 2 2 ∧ W.heap.size ≤ b ∧ Blk w b #[.int .i64 97, .int .i64 y']
 | 16, v, w => ∃ b, v = .agg #[.int .i64 131073, .slice (some ⟨b, 0, none⟩) 2 2] ∧ W.heap.size ≤ b ∧ Blk w b #[.int .i64 97, .int .i64 y']
 | 17, v, w => ∃ b b1 b2, v = .slice (some ⟨b, 0, none⟩) 2 2 ∧ MqIn w (some ⟨b, 0, none⟩) [((131072, [97, y]), .slice (some ⟨b1, 0, none⟩) 2 2), ((131073, [97, y']), .slice (some ⟨b2, 0, none⟩) 2 2)] ∧ W.heap.size ≤ b1 ∧ W.heap.size ≤ b2 ∧ Blk w b1 #[.int .i64 97, .int .i64 y] ∧ Blk w b2 #[.int .i64 97, .int .i64 y']
 | _, _, _ => True
theorem MqIn.keepsF {w w' : World} {p : Option Addr} {Q : List Mq} (h : MqIn w p Q) (hb : Keeps w w' (fun _ => False)) : MqIn w' p Q :=
 h.below (hb.below (Nat.le_refl _) (fun _ _ e => e.elim))
theorem R9.mono {W : World} {tb : Nat} {p9 : Option Addr} {n9 q9 : Nat} {Q : List Mq} {vv aa : Int} {z z' : Nat} {y y' : Int} {j : Nat} {v : Value} {w w' : World} (h : R9 W tb p9 n9 q9 Q vv aa z z' y y' j v w) (hk : Keeps w w' (fun _ => False)) : R9 W tb p9 n9 q9 Q vv aa z z' y y' j v w' := by
 rcases Nat.lt_or_ge j 18 with hj | hj
 ·have hjs : j = 0 ∨ j = 1 ∨ j = 2 ∨ j = 3 ∨ j = 4 ∨ j = 5 ∨ j = 6 ∨ j = 7 ∨ j = 8 ∨ j = 9 ∨ j = 10 ∨ j = 11 ∨ j = 12 ∨ j = 13 ∨ j = 14 ∨ j = 15 ∨ j = 16 ∨ j = 17 := by omega
  rcases hjs with rfl | rfl | rfl | rfl | rfl | rfl | rfl | rfl | rfl | rfl | rfl | rfl | rfl | rfl | rfl | rfl | rfl | rfl
  ·exact h
  ·exact h
  ·exact hk.owns h (fun k hk e => e)
  ·obtain ⟨b, e, h1⟩ := h; exact ⟨b, e, h1.keeps hk (fun _ _ _ e => e)⟩
  ·exact h
  ·exact h
  ·obtain ⟨b, e, h1⟩ := h; exact ⟨b, e, hk.cell h1 (fun e => e)⟩
  ·exact h
  ·obtain ⟨b, e, h0, h1⟩ := h; exact ⟨b, e, h0, h1.keeps hk (fun e => e)⟩
  ·obtain ⟨b, e, h0, h1⟩ := h; exact ⟨b, e, h0, h1.keeps hk (fun e => e)⟩
  ·obtain ⟨b, e, h1⟩ := h; exact ⟨b, e, h1.keeps hk (fun _ _ _ e => e)⟩
  ·exact h
  ·exact h
  ·obtain ⟨b, e, h1⟩ := h; exact ⟨b, e, hk.cell h1 (fun e => e)⟩
  ·exact h
  ·obtain ⟨b, e, h0, h1⟩ := h; exact ⟨b, e, h0, h1.keeps hk (fun e => e)⟩
  ·obtain ⟨b, e, h0, h1⟩ := h; exact ⟨b, e, h0, h1.keeps hk (fun e => e)⟩
  ·obtain ⟨b, b1, b2, e, h0, h1, h2, h3, h4⟩ := h
   exact ⟨b, b1, b2, e, h0.keepsF hk, h1, h2, h3.keeps hk (fun e => e), h4.keeps hk (fun e => e)⟩
 ·obtain ⟨k, rfl⟩ : ∃ k, j = k + 18 := ⟨j - 18, by omega⟩
  exact trivial
def J9 (a0 : Act) (W : World) (tb : Nat) (p9 : Option Addr) (n9 q9 : Nat) (Q : List Mq) (vv aa : Int) (z z' : Nat) (y y' : Int) (d : Nat → Bool) (a : Act) (w : World) : Prop :=
 ∃ xs : List Value, xs.length = 18 ∧ a = putsA a0 152 xs ∧ Keeps W w (fun _ => False) ∧ ∀ j, j < 18 → d j = true → R9 W tb p9 n9 q9 Q vv aa z z' y y' j (xs.getD j undef) w
section
variable {a0 : Act} {W : World} {tb : Nat} {p9 : Option Addr} {n9 q9 : Nat} {Q : List Mq} {vv aa : Int} {z z' : Nat} {y y' : Int} {d : Nat → Bool} {w w' : World} {xs : List Value}
theorem J9.next (hx : xs.length = 18) (hk : Keeps W w (fun _ => False)) (hR : ∀ j, j < 18 → d j = true → R9 W tb p9 n9 q9 Q vv aa z z' y y' j (xs.getD j undef) w) (j : Nat) (hj : j < 18) {v : Value} (hkw : Keeps w w' (fun _ => False)) (hv : R9 W tb p9 n9 q9 Q vv aa z z' y y' j v w') :
 J9 a0 W tb p9 n9 q9 Q vv aa z z' y y' (setB d j) ((putsA a0 152 xs).put (some (152 + j)) v) w' := by
 refine ⟨xs.set j v, by simpa using hx, putsA_set _ _ _ _ _ (by omega), hk.trans hkw (fun _ _ e => e) (fun _ _ e => e), fun k hk2 hd => ?_⟩
 by_cases e : k = j
 ·subst e
  rw [List.getD_eq_getElem?_getD, List.getElem?_set_self (by omega)]
  exact hv
 ·rw [setB_other _ e] at hd
  rw [List.getD_eq_getElem?_getD, List.getElem?_set_ne (fun h => e h.symm), ← List.getD_eq_getElem?_getD]
  exact (hR k hk2 hd).mono hkw
theorem ev_slot (ha : a0.tmps.size = 194) (hx : xs.length = 18) (j : Nat) (hj : j < 18) : (putsA a0 152 xs).eval (.tmp (152 + j)) = xs.getD j undef :=
 putsA_at a0 152 xs j (by omega) (by omega)
theorem ev_low (k : Nat) (hk : k < 152) {v : Value} (h : a0.tmps.getD k undef = v) : (putsA a0 152 xs).eval (.tmp k) = v := (putsA_low a0 152 k xs hk).trans h
end
theorem lit_at {w : World} {b z : Nat} {y : Int} {L : List Int} (h : IntsIn w (some ⟨b, 0, none⟩) L) (hz : z < L.length) (hy : L.getD z 0 = y) : w.cell? ⟨b, z, none⟩ = some (.int .i64 y) := by
 obtain ⟨b', off, e, hc⟩ := h z hz
 cases e
 rw [hy] at hc
 simpa using hc
theorem list18 (xs : List Value) (h : xs.length = 18) : ∃ x0 x1 x2 x3 x4 x5 x6 x7 x8 x9 x10 x11 x12 x13 x14 x15 x16 x17, xs = [x0, x1, x2, x3, x4, x5, x6, x7, x8, x9, x10, x11, x12, x13, x14, x15, x16, x17] := by
 match xs, h with
 | [x0, x1, x2, x3, x4, x5, x6, x7, x8, x9, x10, x11, x12, x13, x14, x15, x16, x17], _ => exact ⟨_, _, _, _, _, _, _, _, _, _, _, _, _, _, _, _, _, _, rfl⟩
set_option maxRecDepth 100000 in
set_option maxHeartbeats 4000000 in
theorem other_9 (x : TV) (T : Tb) (n : Nat) (how at' v : Int) (w : World) (hx : TabV w x T) (hf : Few n T) (hn : n ≤ 1000) (hk : Hid (pickS how 12 = 9)) :
 Calls Tryz.prog 17 #[x.agg, .int .i64 how, .int .i64 at', .int .i64 v] w (OtherPost x n w) := by
 obtain ⟨a0, a1, a2, a3, a4, a5, a6, a7, a8, a9, a10, a11⟩ := x
 obtain ⟨p0, n0, q0, hsl0⟩ : Slc a0 := hx.cat.slc
 subst hsl0
 obtain ⟨p1, n1, q1, hsl1⟩ : Slc a1 := hx.cls.slc
 subst hsl1
 obtain ⟨p2, n2, q2, hsl2⟩ : Slc a2 := hx.joi.slc
 subst hsl2
 obtain ⟨p3, n3, q3, hsl3⟩ : Slc a3 := hx.bid.slc
 subst hsl3
 obtain ⟨p4, n4, q4, hsl4⟩ : Slc a4 := hx.scr.slc
 subst hsl4
 obtain ⟨p5, n5, q5, hsl5⟩ : Slc a5 := hx.sta.slc
 subst hsl5
 obtain ⟨p6, n6, q6, hsl6⟩ : Slc a6 := hx.ign.slc
 subst hsl6
 obtain ⟨p7, n7, q7, hsl7⟩ : Slc a7 := hx.ext.slc
 subst hsl7
 obtain ⟨p8, n8, q8, hsl8⟩ : Slc a8 := hx.map.slc
 subst hsl8
 obtain ⟨p9, n9, q9, hsl9⟩ : Slc a9 := hx.dec.slc
 subst hsl9
 obtain ⟨p10, n10, q10, hsl10⟩ : Slc a10 := hx.exc.slc
 subst hsl10
 obtain ⟨p11, n11, q11, hsl11⟩ : Slc a11 := hx.pro.slc
 subst hsl11
 have hC := OCase.new w ⟨.slice p0 n0 q0, .slice p1 n1 q1, .slice p2 n2 q2, .slice p3 n3 q3, .slice p4 n4 q4, .slice p5 n5 q5, .slice p6 n6 q6, .slice p7 n7 q7, .slice p8 n8 q8, .slice p9 n9 q9, .slice p10 n10 q10, .slice p11 n11 q11⟩ 26
 obtain ⟨W, hW⟩ : ∃ W, ((w.alloc (.cells #[.slice p0 n0 q0, .slice p1 n1 q1, .slice p2 n2 q2, .slice p3 n3 q3, .slice p4 n4 q4, .slice p5 n5 q5, .slice p6 n6 q6, .slice p7 n7 q7, .slice p8 n8 q8, .slice p9 n9 q9, .slice p10 n10 q10, .slice p11 n11 q11] 26)).alloc (.cells nilC 26)).alloc (.cells #[.slice p0 n0 q0, .slice p1 n1 q1, .slice p2 n2 q2, .slice p3 n3 q3, .slice p4 n4 q4, .slice p5 n5 q5, .slice p6 n6 q6, .slice p7 n7 q7, .slice p8 n8 q8, .slice p9 n9 q9, .slice p10 n10 q10, .slice p11 n11 q11] 26) = W := ⟨_, rfl⟩
 simp only [tabCells] at hC
 rw [hW] at hC
 have HC := Lib.hid hC
 have HX := Lib.hid hx
 have HF := Lib.hid hf
 obtain ⟨pp, cc, he9, hin9, hl9⟩ := hx.dec
 injection he9 with e1 e2 e3
 subst e1
 subst e3
 obtain ⟨Q, hQm, hQi, hQt⟩ := mq_of hin9
 have hQl : Q.length = n9 := by rw [e2, ← hQm, List.length_map]
 have hle : n9 ≤ n := by rw [e2]; exact hf.dec
 have HQM := Lib.hid hQm
 have HQI := Lib.hid (hQi.below hC.bel)
 have HQT := Lib.hid hQt
 have HQL := Lib.hid hQl
 have HCT : Hid (W.cell? ⟨w.heap.size, 9, none⟩ = some (.slice p9 n9 q9)) := hC.cellT (by omega)
 clear hin9 hl9 hQm hQi hQt e2
 obtain ⟨z0, HZ, hz0, hz1⟩ := pick_nm v 3 (by omega)
 obtain ⟨z, rfl⟩ : ∃ k : Nat, z0 = k := ⟨z0.toNat, by omega⟩
 obtain ⟨y, hy⟩ : ∃ k, ([769, 776, 803] : List Int).getD z 0 = k := ⟨_, rfl⟩
 have hz3 : z < 3 := by omega
 have hz4 : (z : Int) < ((3 : Nat) : Int) := by omega
 obtain ⟨z'0, HZ', hz'0, hz'1⟩ := pick_nm at' 3 (by omega)
 obtain ⟨z', rfl⟩ : ∃ k : Nat, z'0 = k := ⟨z'0.toNat, by omega⟩
 obtain ⟨y', hy'⟩ : ∃ k, ([769, 776, 803] : List Int).getD z' 0 = k := ⟨_, rfl⟩
 have hz'3 : z' < 3 := by omega
 have hz'4 : (z' : Int) < ((3 : Nat) : Int) := by omega
 go_enter Tryz.func17, Tryz.ntmps17
 go_wp2_with fail
 refine (pick_at how 12 9 _ (by omega) (by omega) hk).mono ?_
 rintro e wz ⟨rfl, rfl⟩
 clear hW hC hx hf hk
 go_upto_region 23 with (fail)
 refine wp_region_any (by kernel_rfl) ?_
 change wpAny _ _ _ _ (18 + 3) _ _ W.drew
 generalize ha : ({ tmps := _, defers := [] } : Act) = a0
 have s2 : a0.tmps.getD 2 undef = .int .i64 at' := by rw [← ha]; rfl
 have s3 : a0.tmps.getD 3 undef = .int .i64 v := by rw [← ha]; rfl
 have s4 : a0.tmps.getD 4 undef = .pointer (some ⟨w.heap.size, 0, none⟩) := by rw [← ha]; rfl
 have s9 : a0.tmps.getD 9 undef = .pointer (some ⟨w.heap.size + 1 + 1, 0, none⟩) := by rw [← ha]; rfl
 have ss : a0.tmps.size = 194 := by rw [← ha]; rfl
 have s0 : a0 = putsA a0 152 (List.replicate 18 undef) := by rw [← ha]; kernel_rfl
 refine wpAny_stage 18 (Array.replicate 21 false) #[true, true, true, true, true, true, true, true, true, true, true, true, true, true, true, true, true, true, false, false, false] (J9 a0 W w.heap.size p9 n9 q9 Q v at' z z' y y') 3 (by decide) (by kernel_rfl) (by kernel_rfl) (by kernel_rfl) rfl (fun j hj => ?_) (fun t ht => ?_) ?_ ?_ 18 _ _ _ ⟨rfl, fun j oj hj ho hl => ?_, fun t _ => ?_⟩ (by decide) ?_
 ·have hjs : j = 0 ∨ j = 1 ∨ j = 2 ∨ j = 3 ∨ j = 4 ∨ j = 5 ∨ j = 6 ∨ j = 7 ∨ j = 8 ∨ j = 9 ∨ j = 10 ∨ j = 11 ∨ j = 12 ∨ j = 13 ∨ j = 14 ∨ j = 15 ∨ j = 16 ∨ j = 17 := by omega
  rcases hjs with rfl | rfl | rfl | rfl | rfl | rfl | rfl | rfl | rfl | rfl | rfl | rfl | rfl | rfl | rfl | rfl | rfl | rfl <;> rfl
 ·rcases Nat.lt_or_ge t 21 with h | h
  ·have hts : t = 18 ∨ t = 19 ∨ t = 20 := by omega
   rcases hts with rfl | rfl | rfl <;> rfl
  ·rw [Array.getD_eq_getD_getElem?, Array.getD_eq_getD_getElem?, Array.getElem?_eq_none (by simpa using h), Array.getElem?_eq_none (by simpa using h)]
 ·clear ha s0
  intro d a wz j o hj ho hd hdep hJ
  obtain ⟨xs, hxl, rfl, hkW, hR⟩ := hJ
  have hsz := hkW.size
  have hjs : j = 0 ∨ j = 1 ∨ j = 2 ∨ j = 3 ∨ j = 4 ∨ j = 5 ∨ j = 6 ∨ j = 7 ∨ j = 8 ∨ j = 9 ∨ j = 10 ∨ j = 11 ∨ j = 12 ∨ j = 13 ∨ j = 14 ∨ j = 15 ∨ j = 16 ∨ j = 17 := by omega
  rcases hjs with rfl | rfl | rfl | rfl | rfl | rfl | rfl | rfl | rfl | rfl | rfl | rfl | rfl | rfl | rfl | rfl | rfl | rfl
  ·cases ho
   refine wpOp_step rfl (fun K hK => ?_)
   refine want rfl ?_
   exact ol_field (.tmp 4) rfl _ (ev_low 4 (by omega) s4) (hK _ _ (J9.next hxl hkW hR 0 (by omega) (Keeps.refl _ _) rfl))
  ·cases ho
   refine wpOp_step rfl (fun K hK => ?_)
   have e0 : xs.getD 0 undef = _ := hR 0 (by omega) (hdep ⟨0, .data⟩ (by simp) rfl)
   refine want rfl ?_
   exact ol_loadM (.tmp 152) rfl _ 9 _ ((ev_slot ss hxl 0 (by omega)).trans e0) (hkW.cell HCT.out (fun e => e)) (hK _ _ (J9.next hxl hkW hR 1 (by omega) (Keeps.refl _ _) rfl))
  ·cases ho
   refine wpOp_step rfl (fun K hK => ?_)
   have e1 : xs.getD 1 undef = _ := hR 1 (by omega) (hdep ⟨1, .data⟩ (by simp) rfl)
   refine step_append_maps rfl (.const (.slice none 0 0)) (.tmp 153) rfl W.heap.size (.slice none 0 0) [] rfl (RowQ.nil _ _) p9 n9 q9 Q HQL.out ((ev_slot ss hxl 1 (by omega)).trans e1) (HQI.out.keepsF hkW) (by have := HQL.out; simp; omega) hsz (fun v' w' ho' hg' => ?_)
   exact hK _ _ (J9.next hxl hkW hR 2 (by omega) (keeps_g hg') ho')
  ·cases ho
   refine wpOp_step rfl (fun K hK => ?_)
   refine want rfl ?_
   exact ol_lit3 769 776 803 rfl (hK _ _ (J9.next hxl hkW hR 3 (by omega) (Keeps.alloc _ _) ⟨_, rfl, ints_cells _ _ _ 0 _ rfl (by intro k hk; have hk2 : k = 0 ∨ k = 1 ∨ k = 2 := (by simp at hk; omega); rcases hk2 with rfl | rfl | rfl <;> rfl)⟩))
  ·cases ho
   refine wpOp_step rfl (fun K hK => ?_)
   refine want rfl ?_
   exact ol_move (.tmp 3) rfl _ (ev_low 3 (by omega) s3) (hK _ _ (J9.next hxl hkW hR 4 (by omega) (Keeps.refl _ _) rfl))
  ·cases ho
   refine wpOp_step rfl (fun K hK => ?_)
   have e0 : xs.getD 4 undef = _ := hR 4 (by omega) (hdep ⟨4, .data⟩ (by simp) rfl)
   refine want rfl ?_
   exact ol_pick 156 3 _ _ rfl ((ev_slot ss hxl 4 (by omega)).trans e0) (by omega) (by omega) HZ (hK _ _ (J9.next hxl hkW hR 5 (by omega) (Keeps.refl _ _) rfl))
  ·cases ho
   refine wpOp_step rfl (fun K hK => ?_)
   obtain ⟨b, e0, hi⟩ := hR 3 (by omega) (hdep ⟨3, .data⟩ (by simp) rfl)
   have e1 : xs.getD 5 undef = _ := hR 5 (by omega) (hdep ⟨5, .data⟩ (by simp) rfl)
   refine want rfl ?_
   exact ol_index (.tmp 155) (.tmp 157) rfl b 3 3 z ((ev_slot ss hxl 3 (by omega)).trans e0) ((ev_slot ss hxl 5 (by omega)).trans e1) hz3 hz4 (hK _ _ (J9.next hxl hkW hR 6 (by omega) (Keeps.refl _ _) ⟨b, rfl, lit_at hi hz3 hy⟩))
  ·cases ho
   refine wpOp_step rfl (fun K hK => ?_)
   obtain ⟨b, e0, hc⟩ := hR 6 (by omega) (hdep ⟨6, .data⟩ (by simp) rfl)
   refine want rfl ?_
   exact ol_loadI (.tmp 158) rfl b z _ ((ev_slot ss hxl 6 (by omega)).trans e0) hc (hK _ _ (J9.next hxl hkW hR 7 (by omega) (Keeps.refl _ _) rfl))
  ·cases ho
   refine wpOp_step rfl (fun K hK => ?_)
   have e0 : xs.getD 7 undef = _ := hR 7 (by omega) (hdep ⟨7, .data⟩ (by simp) rfl)
   refine want rfl ?_
   exact ol_lit2 97 159 _ rfl ((ev_slot ss hxl 7 (by omega)).trans e0) (hK _ _ (J9.next hxl hkW hR 8 (by omega) (Keeps.alloc _ _) ⟨_, rfl, hsz, Blk.new _ _⟩))
  ·cases ho
   refine wpOp_step rfl (fun K hK => ?_)
   obtain ⟨b, e0, hb, hi⟩ := hR 8 (by omega) (hdep ⟨8, .data⟩ (by simp) rfl)
   refine want rfl ?_
   exact ol_build 131072 160 _ 2 2 rfl ((ev_slot ss hxl 8 (by omega)).trans e0) (hK _ _ (J9.next hxl hkW hR 9 (by omega) (Keeps.refl _ _) ⟨b, rfl, hb, hi⟩))
  ·cases ho
   refine wpOp_step rfl (fun K hK => ?_)
   refine want rfl ?_
   exact ol_lit3 769 776 803 rfl (hK _ _ (J9.next hxl hkW hR 10 (by omega) (Keeps.alloc _ _) ⟨_, rfl, ints_cells _ _ _ 0 _ rfl (by intro k hk; have hk2 : k = 0 ∨ k = 1 ∨ k = 2 := (by simp at hk; omega); rcases hk2 with rfl | rfl | rfl <;> rfl)⟩))
  ·cases ho
   refine wpOp_step rfl (fun K hK => ?_)
   refine want rfl ?_
   exact ol_move (.tmp 2) rfl _ (ev_low 2 (by omega) s2) (hK _ _ (J9.next hxl hkW hR 11 (by omega) (Keeps.refl _ _) rfl))
  ·cases ho
   refine wpOp_step rfl (fun K hK => ?_)
   have e0 : xs.getD 11 undef = _ := hR 11 (by omega) (hdep ⟨11, .data⟩ (by simp) rfl)
   refine want rfl ?_
   exact ol_pick 163 3 _ _ rfl ((ev_slot ss hxl 11 (by omega)).trans e0) (by omega) (by omega) HZ' (hK _ _ (J9.next hxl hkW hR 12 (by omega) (Keeps.refl _ _) rfl))
  ·cases ho
   refine wpOp_step rfl (fun K hK => ?_)
   obtain ⟨b, e0, hi⟩ := hR 10 (by omega) (hdep ⟨10, .data⟩ (by simp) rfl)
   have e1 : xs.getD 12 undef = _ := hR 12 (by omega) (hdep ⟨12, .data⟩ (by simp) rfl)
   refine want rfl ?_
   exact ol_index (.tmp 162) (.tmp 164) rfl b 3 3 z' ((ev_slot ss hxl 10 (by omega)).trans e0) ((ev_slot ss hxl 12 (by omega)).trans e1) hz'3 hz'4 (hK _ _ (J9.next hxl hkW hR 13 (by omega) (Keeps.refl _ _) ⟨b, rfl, lit_at hi hz'3 hy'⟩))
  ·cases ho
   refine wpOp_step rfl (fun K hK => ?_)
   obtain ⟨b, e0, hc⟩ := hR 13 (by omega) (hdep ⟨13, .data⟩ (by simp) rfl)
   refine want rfl ?_
   exact ol_loadI (.tmp 165) rfl b z' _ ((ev_slot ss hxl 13 (by omega)).trans e0) hc (hK _ _ (J9.next hxl hkW hR 14 (by omega) (Keeps.refl _ _) rfl))
  ·cases ho
   refine wpOp_step rfl (fun K hK => ?_)
   have e0 : xs.getD 14 undef = _ := hR 14 (by omega) (hdep ⟨14, .data⟩ (by simp) rfl)
   refine want rfl ?_
   exact ol_lit2 97 166 _ rfl ((ev_slot ss hxl 14 (by omega)).trans e0) (hK _ _ (J9.next hxl hkW hR 15 (by omega) (Keeps.alloc _ _) ⟨_, rfl, hsz, Blk.new _ _⟩))
  ·cases ho
   refine wpOp_step rfl (fun K hK => ?_)
   obtain ⟨b, e0, hb, hi⟩ := hR 15 (by omega) (hdep ⟨15, .data⟩ (by simp) rfl)
   refine want rfl ?_
   exact ol_build 131073 167 _ 2 2 rfl ((ev_slot ss hxl 15 (by omega)).trans e0) (hK _ _ (J9.next hxl hkW hR 16 (by omega) (Keeps.refl _ _) ⟨b, rfl, hb, hi⟩))
  ·cases ho
   refine wpOp_step rfl (fun K hK => ?_)
   obtain ⟨b1, e1, hb1, hi1⟩ := hR 9 (by omega) (hdep ⟨9, .data⟩ (by simp) rfl)
   obtain ⟨b2, e2, hb2, hi2⟩ := hR 16 (by omega) (hdep ⟨16, .data⟩ (by simp) rfl)
   refine want rfl ?_
   exact ol_two 161 168 131072 131073 _ _ 2 2 2 2 rfl ((ev_slot ss hxl 9 (by omega)).trans e1) ((ev_slot ss hxl 16 (by omega)).trans e2) (hK _ _ (J9.next hxl hkW hR 17 (by omega) (Keeps.alloc _ _) ⟨_, b1, b2, rfl, mq_new2 _ _ _ _ _ _ _ _ rfl rfl rfl, hb1, hb2, hi1.keeps (Keeps.alloc _ _) (fun e => e), hi2.keeps (Keeps.alloc _ _) (fun e => e)⟩))
 ·intro d a wz hall hJ
  obtain ⟨xs, hxl, rfl, hkW, hR⟩ := hJ
  have r2 : RowQ wz W.heap.size (xs.getD 2 undef) Q := hR 2 (by omega) (hall 2 (by omega))
  obtain ⟨b, b1, b2, e17, hmq, hb1, hb2, hi1, hi2⟩ := hR 17 (by omega) (hall 17 (by omega))
  refine wpAny_ready (rs := [18]) (by kernel_rfl) (by simp) (AllReady.cons rfl (fun K hK => ?_) AllReady.nil)
  refine step_append_maps rfl (.tmp 154) (.tmp 169) rfl W.heap.size (xs.getD 2 undef) Q (ev_slot ss hxl 2 (by omega)) r2 (some ⟨b, 0, none⟩) 2 2 [((131072, [97, y]), .slice (some ⟨b1, 0, none⟩) 2 2), ((131073, [97, y']), .slice (some ⟨b2, 0, none⟩) 2 2)] rfl ((ev_slot ss hxl 17 (by omega)).trans e17) hmq (by have := HQL.out; simp; omega) hkW.size (fun v3 w3 ho3 hg3 => ?_)
  have hk3 : Keeps W w3 (fun _ => False) := keeps_two hkW r2 (ka0 wz) hg3
  have hj1 := hi1.keeps (Keeps.of_grown hg3) (fun e => (hi1.ne r2 e) rfl)
  have hj2 := hi2.keeps (Keeps.of_grown hg3) (fun e => (hi2.ne r2 e) rfl)
  have hcf : w3.cell? ⟨w.heap.size + 1 + 1, 9, none⟩ = some (.slice p9 n9 q9) ∧ w3.frozen? ⟨w.heap.size + 1 + 1, 9, none⟩ = false := HC.out.cellG hk3 (by omega)
  obtain ⟨c3, f3⟩ := hcf
  obtain ⟨pv, cv, Nv, rfl⟩ : ∃ p c N, v3 = .slice p N c := by obtain ⟨p, c, e⟩ := RowQ.slice ho3; exact ⟨p, c, _, e⟩
  have hY : ∀ q ∈ [((131072, [97, y]), .slice (some ⟨b1, 0, none⟩) 2 2), ((131073, [97, y']), .slice (some ⟨b2, 0, none⟩) 2 2)], NewTo W w3 q := by
   intro q hq
   simp only [List.mem_cons, List.not_mem_nil, or_false] at hq
   rcases hq with rfl | rfl
   ·exact new_to' (hj1.ints [97, y] (by intro k hk; have hk2 : k = 0 ∨ k = 1 := (by simp at hk; omega); rcases hk2 with rfl | rfl <;> rfl)) (by simp) hb1 rfl
   ·exact new_to' (hj2.ints [97, y'] (by intro k hk; have hk2 : k = 0 ∨ k = 1 := (by simp at hk; omega); rcases hk2 with rfl | rfl <;> rfl)) (by simp) hb2 rfl
  refine hK _ _ ?_
  obtain ⟨x0, x1, x2, x3, x4, x5, x6, x7, x8, x9, x10, x11, x12, x13, x14, x15, x16, x17, rfl⟩ : ∃ x0 x1 x2 x3 x4 x5 x6 x7 x8 x9 x10 x11 x12 x13 x14 x15 x16 x17, xs = [x0, x1, x2, x3, x4, x5, x6, x7, x8, x9, x10, x11, x12, x13, x14, x15, x16, x17] := list18 xs hxl
  have HE : Hid (∃ x' T', OEnd w (w.heap.size + 1 + 1) (w.heap.size + 1) n ⟨.slice p0 n0 q0, .slice p1 n1 q1, .slice p2 n2 q2, .slice p3 n3 q3, .slice p4 n4 q4, .slice p5 n5 q5, .slice p6 n6 q6, .slice p7 n7 q7, .slice p8 n8 q8, .slice p9 n9 q9, .slice p10 n10 q10, .slice p11 n11 q11⟩ (w3.setCell ⟨w.heap.size + 1 + 1, 9, none⟩ (.slice pv Nv cv)) x' T') :=
   ⟨_, { T with dec := T.dec ++ [(131072, [97, y]), (131073, [97, y'])] }, HC.out.fin (i := 9) (by omega) hk3 (fun wz hz => by
    have o := HC.out.oldT HX.out hk3 wz hz
    exact ⟨o.cat, o.cls, o.joi, o.bid, o.scr, o.sta, o.ign, o.ext, o.map, (by have h := HC.out.maps hk3 ho3 (Nat.le_refl _) HQT.out hY (by have := HQL.out; simp; omega) wz hz; rw [HQM.out] at h; exact h), o.exc, o.pro⟩) ⟨Nat.le_trans HF.out.cat (by omega), Nat.le_trans HF.out.cls (by omega), Nat.le_trans HF.out.joi (by omega), Nat.le_trans HF.out.bid (by omega), Nat.le_trans HF.out.scr (by omega), Nat.le_trans HF.out.sta (by omega), Nat.le_trans HF.out.ign (by omega), Nat.le_trans HF.out.ext (by omega), Nat.le_trans HF.out.map (by omega), by simp only [List.length_append, List.length_cons, List.length_nil]; have := HF.out.dec; omega, Nat.le_trans HF.out.exc (by omega), Nat.le_trans HF.out.pro (by omega)⟩ (fun _ p n c e => row_cap ho3 e)⟩
  clear s0 s2 s3 s4 s9 ss hxl hkW hR r2 hmq hi1 hi2 hj1 hj2 hg3 hk3 hY ho3 e17
  subst ha
  simp only [putsA]
  refine wpAny_ready (rs := [19]) (by kernel_rfl) (by simp) (AllReady.cons rfl (fun K hK => ?_) AllReady.nil)
  go_simp
  refine hK _ _ ?_
  refine wpAny_ready (rs := [20]) (by kernel_rfl) (by simp) (AllReady.cons rfl (fun K hK => ?_) AllReady.nil)
  go_simp
  refine hK _ _ ?_
  refine wpAny_done (by kernel_rfl) ?_ _
  generalize (w3.setCell ⟨w.heap.size + 1 + 1, 9, none⟩ (.slice pv Nv cv)) = wx at HE ⊢
  clear c3 f3
  go_upto_region 28 with (fail)
  generalize hrb : w.heap.size + 1 = rb at HE ⊢
  generalize hgg : w.heap.size + 1 + 1 = g at HE ⊢
  obtain ⟨⟨b0, b1, b2, b3, b4, b5, b6, b7, b8, b9, b10, b11⟩, T', he⟩ := HE.out
  have htv := he.tab wx (Keeps.refl _ _)
  obtain ⟨r0, m0, c0, hsl0⟩ : Slc b0 := htv.cat.slc
  subst hsl0
  obtain ⟨r1, m1, c1, hsl1⟩ : Slc b1 := htv.cls.slc
  subst hsl1
  obtain ⟨r2, m2, c2, hsl2⟩ : Slc b2 := htv.joi.slc
  subst hsl2
  obtain ⟨r3, m3, c3, hsl3⟩ : Slc b3 := htv.bid.slc
  subst hsl3
  obtain ⟨r4, m4, c4, hsl4⟩ : Slc b4 := htv.scr.slc
  subst hsl4
  obtain ⟨r5, m5, c5, hsl5⟩ : Slc b5 := htv.sta.slc
  subst hsl5
  obtain ⟨r6, m6, c6, hsl6⟩ : Slc b6 := htv.ign.slc
  subst hsl6
  obtain ⟨r7, m7, c7, hsl7⟩ : Slc b7 := htv.ext.slc
  subst hsl7
  obtain ⟨r8, m8, c8, hsl8⟩ : Slc b8 := htv.map.slc
  subst hsl8
  obtain ⟨r9, m9, c9, hsl9⟩ : Slc b9 := htv.dec.slc
  subst hsl9
  obtain ⟨r10, m10, c10, hsl10⟩ : Slc b10 := htv.exc.slc
  subst hsl10
  obtain ⟨r11, m11, c11, hsl11⟩ : Slc b11 := htv.pro.slc
  subst hsl11
  have HEE := Lib.hid he
  obtain ⟨⟨k0, k1, k2, k3, k4, k5⟩, ⟨k6, k7, k8, k9, k10, k11⟩⟩ := he.box.load
  simp only at k0 k1 k2 k3 k4 k5 k6 k7 k8 k9 k10 k11
  obtain ⟨s0, t0⟩ := he.res 0 (by omega)
  obtain ⟨s1, t1⟩ := he.res 1 (by omega)
  obtain ⟨s2, t2⟩ := he.res 2 (by omega)
  obtain ⟨s3, t3⟩ := he.res 3 (by omega)
  obtain ⟨s4, t4⟩ := he.res 4 (by omega)
  obtain ⟨s5, t5⟩ := he.res 5 (by omega)
  obtain ⟨s6, t6⟩ := he.res 6 (by omega)
  obtain ⟨s7, t7⟩ := he.res 7 (by omega)
  obtain ⟨s8, t8⟩ := he.res 8 (by omega)
  obtain ⟨s9, t9⟩ := he.res 9 (by omega)
  obtain ⟨s10, t10⟩ := he.res 10 (by omega)
  obtain ⟨s11, t11⟩ := he.res 11 (by omega)
  have HRB : Hid (w.heap.size ≤ rb) := by unfold Hid; omega
  clear HE he htv hrb hgg
  go_wp2
  obtain ⟨hbF, hkF⟩ := store12 wx rb (.slice r0 m0 c0) (.slice r1 m1 c1) (.slice r2 m2 c2) (.slice r3 m3 c3) (.slice r4 m4 c4) (.slice r5 m5 c5) (.slice r6 m6 c6) (.slice r7 m7 c7) (.slice r8 m8 c8) (.slice r9 m9 c9) (.slice r10 m10 c10) (.slice r11 m11 c11) HEE.out.res
  generalize (World.setCell (World.setCell (World.setCell (World.setCell (World.setCell (World.setCell (World.setCell (World.setCell (World.setCell (World.setCell (World.setCell (World.setCell (wx) ⟨rb, 0, none⟩ (.slice r0 m0 c0)) ⟨rb, 1, none⟩ (.slice r1 m1 c1)) ⟨rb, 2, none⟩ (.slice r2 m2 c2)) ⟨rb, 3, none⟩ (.slice r3 m3 c3)) ⟨rb, 4, none⟩ (.slice r4 m4 c4)) ⟨rb, 5, none⟩ (.slice r5 m5 c5)) ⟨rb, 6, none⟩ (.slice r6 m6 c6)) ⟨rb, 7, none⟩ (.slice r7 m7 c7)) ⟨rb, 8, none⟩ (.slice r8 m8 c8)) ⟨rb, 9, none⟩ (.slice r9 m9 c9)) ⟨rb, 10, none⟩ (.slice r10 m10 c10)) ⟨rb, 11, none⟩ (.slice r11 m11 c11)) = WF at hbF hkF ⊢
  obtain ⟨⟨Q0, Q1, Q2, Q3, Q4, Q5⟩, ⟨Q6, Q7, Q8, Q9, Q10, Q11⟩⟩ := hbF.load
  simp only at Q0 Q1 Q2 Q3 Q4 Q5 Q6 Q7 Q8 Q9 Q10 Q11
  refine bodyPost_ret (v := .agg #[.slice r0 m0 c0, .slice r1 m1 c1, .slice r2 m2 c2, .slice r3 m3 c3, .slice r4 m4 c4, .slice r5 m5 c5, .slice r6 m6 c6, .slice r7 m7 c7, .slice r8 m8 c8, .slice r9 m9 c9, .slice r10 m10 c10, .slice r11 m11 c11]) (by simp [results, Tryz.results17, go_sem, Q0, Q1, Q2, Q3, Q4, Q5, Q6, Q7, Q8, Q9, Q10, Q11]) rfl ?_
  exact ⟨⟨.slice r0 m0 c0, .slice r1 m1 c1, .slice r2 m2 c2, .slice r3 m3 c3, .slice r4 m4 c4, .slice r5 m5 c5, .slice r6 m6 c6, .slice r7 m7 c7, .slice r8 m8 c8, .slice r9 m9 c9, .slice r10 m10 c10, .slice r11 m11 c11⟩, T', rfl, HEE.out.tab WF hkF, HEE.out.few, HEE.out.cap, HEE.out.bel.trans (hkF.below HEE.out.bel.size (fun b _ e => by have := HRB.out; omega))⟩
 ·have hl2 : (Array.replicate 21 false).getD j false = true := hl
  rw [getD_replicate_false] at hl2
  cases hl2
 ·rfl
 ·exact ⟨List.replicate 18 undef, by simp, s0, ⟨rfl, rfl, rfl, Nat.le_refl _, fun _ _ _ => rfl⟩, fun j hj hd => by
   have hd2 : (Array.replicate 21 false).getD j false = true := hd
   rw [getD_replicate_false] at hd2
   cases hd2⟩
theorem other_any (x : TV) (T : Tb) (n : Nat) (how at' v : Int) (w : World) (hx : TabV w x T) (hf : Few n T) (hn : n ≤ 1000) :
 Calls Tryz.prog 17 #[x.agg, .int .i64 how, .int .i64 at', .int .i64 v] w (OtherPost x n w) := by
 obtain ⟨q, HQ, q0, q1⟩ := pick_nm how 12 (by omega)
 have hq : q = 0 ∨ q = 1 ∨ q = 2 ∨ q = 3 ∨ q = 4 ∨ q = 5 ∨ q = 6 ∨ q = 7 ∨ q = 8 ∨ q = 9 ∨ q = 10 ∨ q = 11 := by omega
 rcases hq with rfl | rfl | rfl | rfl | rfl | rfl | rfl | rfl | rfl | rfl | rfl | rfl
 ·exact other_0 x T n how at' v w hx hf hn HQ
 ·exact other_1 x T n how at' v w hx hf hn HQ
 ·exact other_2 x T n how at' v w hx hf hn HQ
 ·obtain ⟨z, HZ, z0, z1⟩ := pick_nm at' 2 (by omega)
  have hz : z = 0 ∨ z = 1 := by omega
  rcases hz with rfl | rfl
  ·exact other_3a x T n how at' v w hx hf hn HQ HZ
  ·exact other_3b x T n how at' v w hx hf hn HQ HZ
 ·exact other_4 x T n how at' v w hx hf hn HQ
 ·exact other_5 x T n how at' v w hx hf hn HQ
 ·exact other_6 x T n how at' v w hx hf hn HQ
 ·exact other_7 x T n how at' v w hx hf hn HQ
 ·exact other_8 x T n how at' v w hx hf hn HQ
 ·exact other_9 x T n how at' v w hx hf hn HQ
 ·exact other_10 x T n how at' v w hx hf hn HQ
 ·obtain ⟨z, HZ, z0, z1⟩ := pick_nm v 2 (by omega)
  have hz : z = 0 ∨ z = 1 := by omega
  rcases hz with rfl | rfl
  ·exact other_11a x T n how at' v w hx hf hn HQ HZ
  ·exact other_11b x T n how at' v w hx hf hn HQ HZ
end Go.Proofs.YtopaojjodkoidaaGreatDoor
