/-
  keep.Other: the cases K4, K6, K8 (genO.py).
-/
import Derived.Test.YtnnhcgflmhjakaaGreatDoorPkH
set_option linter.unusedSimpArgs false
set_option linter.unusedVariables false
namespace Go.Proofs.YtnnhcgflmhjakaaGreatDoor
open Go.RowKit
set_option linter.unusedVariables false

set_option maxRecDepth 100000 in
set_option maxHeartbeats 4000000 in
theorem other_4 (x : TV) (T : Tb) (n : Nat) (how at' v : Int) (w : World) (hx : TabV w x T) (hf : Few n T) (hn : n ≤ 1000) (hk : Hid (pickS how 12 = 4)) :
    Calls Tryz.prog 10 #[x.agg, .int .i64 how, .int .i64 at', .int .i64 v] w (OtherPost x n w) := by
  obtain ⟨a0, a1, a2, a3, a4, a5, a6, a7, a8, a9, a10, a11⟩ := x
  obtain ⟨p0, n0, q0, hsl0⟩ : Slc a0 := hx.cat.slc
  subst hsl0
  obtain ⟨p1, n1, q1, hsl1⟩ : Slc a1 := hx.cls.slc
  subst hsl1
  obtain ⟨p2, n2, q2, hsl2⟩ : Slc a2 := hx.joi.slc
  subst hsl2
  obtain ⟨p3, n3, q3, hsl3⟩ : Slc a3 := hx.bid.slc
  subst hsl3
  obtain ⟨p4, n4, q4, hsl4⟩ : Slc a4 := hx.scr.slc
  subst hsl4
  obtain ⟨p5, n5, q5, hsl5⟩ : Slc a5 := hx.sta.slc
  subst hsl5
  obtain ⟨p6, n6, q6, hsl6⟩ : Slc a6 := hx.ign.slc
  subst hsl6
  obtain ⟨p7, n7, q7, hsl7⟩ : Slc a7 := hx.ext.slc
  subst hsl7
  obtain ⟨p8, n8, q8, hsl8⟩ : Slc a8 := hx.map.slc
  subst hsl8
  obtain ⟨p9, n9, q9, hsl9⟩ : Slc a9 := hx.dec.slc
  subst hsl9
  obtain ⟨p10, n10, q10, hsl10⟩ : Slc a10 := hx.exc.slc
  subst hsl10
  obtain ⟨p11, n11, q11, hsl11⟩ : Slc a11 := hx.pro.slc
  subst hsl11
  have hC := OCase.new w ⟨.slice p0 n0 q0, .slice p1 n1 q1, .slice p2 n2 q2, .slice p3 n3 q3, .slice p4 n4 q4, .slice p5 n5 q5, .slice p6 n6 q6, .slice p7 n7 q7, .slice p8 n8 q8, .slice p9 n9 q9, .slice p10 n10 q10, .slice p11 n11 q11⟩ 29
  obtain ⟨W, hW⟩ : ∃ W, ((w.alloc (.cells #[.slice p0 n0 q0, .slice p1 n1 q1, .slice p2 n2 q2, .slice p3 n3 q3, .slice p4 n4 q4, .slice p5 n5 q5, .slice p6 n6 q6, .slice p7 n7 q7, .slice p8 n8 q8, .slice p9 n9 q9, .slice p10 n10 q10, .slice p11 n11 q11] 29)).alloc (.cells nilC 29)).alloc (.cells #[.slice p0 n0 q0, .slice p1 n1 q1, .slice p2 n2 q2, .slice p3 n3 q3, .slice p4 n4 q4, .slice p5 n5 q5, .slice p6 n6 q6, .slice p7 n7 q7, .slice p8 n8 q8, .slice p9 n9 q9, .slice p10 n10 q10, .slice p11 n11 q11] 29) = W := ⟨_, rfl⟩
  simp only [tabCells] at hC
  rw [hW] at hC
  have HC := Lib.hid hC
  have HX := Lib.hid hx
  have HF := Lib.hid hf
  obtain ⟨pp, cc, he9, hin9, hl9⟩ := hx.dec
  injection he9 with e1 e2 e3
  subst e1
  subst e3
  obtain ⟨Q, hQm, hQi, hQt⟩ := mq_of hin9
  have hQl : Q.length = n9 := by rw [e2, ← hQm, List.length_map]
  have hle : n9 ≤ n := by rw [e2]; exact hf.dec
  have HQM := Lib.hid hQm
  have HQI := Lib.hid (hQi.below hC.bel)
  have HQT := Lib.hid hQt
  have HQL := Lib.hid hQl
  have ct : W.cell? ⟨w.heap.size, 9, none⟩ = some (.slice p9 n9 q9) := hC.cellT (by omega)
  clear hin9 hl9 hQm hQi hQt e2
  obtain ⟨z0, HZ0, hz0, hz1⟩ := pick_nm v 6 (by omega)
  obtain ⟨z, rfl⟩ : ∃ z : Nat, z0 = z := ⟨z0.toNat, by omega⟩
  obtain ⟨y, hy⟩ : ∃ y, ([131072, 46, 44032, 4449, 55296, 97] : List Int).getD z 0 = y := ⟨_, rfl⟩
  have HYC : Hid (∀ W1 : World, (W1.alloc (.cells #[.int .i64 131072, .int .i64 46, .int .i64 44032, .int .i64 4449, .int .i64 55296, .int .i64 97] 3)).cell? ⟨W1.heap.size, z, none⟩ = some (.int .i64 y)) := by
    intro W1
    have hz : z = 0 ∨ z = 1 ∨ z = 2 ∨ z = 3 ∨ z = 4 ∨ z = 5 := by omega
    rw [← hy]
    rcases hz with rfl | rfl | rfl | rfl | rfl | rfl <;> simp [World.cell?_alloc_new]
  clear hy
  go_enter Tryz.func10, Tryz.ntmps10
  go_wp2_with fail
  refine (pick_at how 12 4 _ (by omega) (by omega) hk).mono ?_
  rintro e wz ⟨rfl, rfl⟩
  clear hW hC hx hf hk
  go_upto_region 28 with (first
    | (at_builtin; refine wpList_append_maps (.const (.slice none 0 0)) (.tmp 85) rfl rfl W.heap.size (.slice none 0 0) [] rfl (RowQ.nil _ _) p9 n9 q9 Q HQL.out rfl HQI.out (by have := HQL.out; simp; omega) (Nat.le_refl _) ?_; intro v1 w1 ho1 hg1; have hk1 : Keeps W w1 (fun _ => False) := keeps_g hg1; have hh1 := hk1.size; have y1 : (w1.alloc (.cells #[.int .i64 131072, .int .i64 46, .int .i64 44032, .int .i64 4449, .int .i64 55296, .int .i64 97] 3)).cell? ⟨w1.heap.size, z, none⟩ = some (.int .i64 y) := HYC.out w1)
    | (go_at_call 9; (with_reducible refine (pick_at v 6 z _ (by omega) (by omega) HZ0).mono ?_); rintro e wn ⟨rfl, rfl⟩)
    | (at_builtin; refine wpList_append_map1 (.tmp 86) (.tmp 94) rfl rfl W.heap.size v1 ([] ++ Q) rfl (World.ownsRow.alloc (World.ownsRow.alloc ho1 _) _) 131072 [y] _ _ _ rfl (by simp) rfl (by have := HQL.out; simp; omega) (Nat.le_trans hh1 (by simp <;> omega)) ?_; intro v3 w3 ho3 hg3; have hk3 : Keeps W w3 (fun _ => False) := keeps_two hk1 ho1 (ka3 w1 _ _ _) hg3; have hcf : w3.cell? ⟨w.heap.size + 1 + 1, 9, none⟩ = some (.slice p9 n9 q9) ∧ w3.frozen? ⟨w.heap.size + 1 + 1, 9, none⟩ = false := HC.out.cellG hk3 (by omega); obtain ⟨c3, f3⟩ := hcf; obtain ⟨pv, cv, Nv, rfl⟩ : ∃ p c N, v3 = .slice p N c := (by obtain ⟨p, c, e⟩ := RowQ.slice ho3; exact ⟨p, c, _, e⟩)))
  have hown : ∀ k, v1.ownBlock = some k → k < w1.heap.size := fun k hk => (World.ownsRow.lt ho1 k hk).2
  rw [List.nil_append] at ho3
  have hY : ∀ q ∈ [((131072, [y]), .slice (some ⟨w1.heap.size + 1, 0, none⟩) 1 1)], NewTo W w3 q := by
    intro q hq
    simp only [List.mem_cons, List.not_mem_nil, or_false] at hq
    subst hq
    exact new_to (W := W) (b := w1.heap.size + 1) (off := 0) ((ints_cells (w1.alloc (.cells #[.int .i64 131072, .int .i64 46, .int .i64 44032, .int .i64 4449, .int .i64 55296, .int .i64 97] 3)) #[.int .i64 y] 3 0 [y] (by simp) (by intro k hk; have hk2 : k = 0 := (by simp at hk; omega); rcases hk2 with rfl <;> rfl)).alloc _) (by simp) hg3 (fun k hk => Nat.lt_succ_of_lt (hown k hk)) (Nat.le_succ_of_le hh1) rfl
  have HE : Hid (∃ x' T', OEnd w (w.heap.size + 1 + 1) (w.heap.size + 1) n ⟨.slice p0 n0 q0, .slice p1 n1 q1, .slice p2 n2 q2, .slice p3 n3 q3, .slice p4 n4 q4, .slice p5 n5 q5, .slice p6 n6 q6, .slice p7 n7 q7, .slice p8 n8 q8, .slice p9 n9 q9, .slice p10 n10 q10, .slice p11 n11 q11⟩ (w3.setCell ⟨w.heap.size + 1 + 1, 9, none⟩ (.slice pv Nv cv)) x' T') :=
    ⟨_, { T with dec := T.dec ++ [(131072, [y])] }, HC.out.fin (i := 9) (by omega) hk3 (fun wz hz => by
      have o := HC.out.oldT HX.out hk3 wz hz
      exact ⟨o.cat, o.cls, o.joi, o.bid, o.scr, o.sta, o.ign, o.ext, o.map, (by have h := HC.out.maps hk3 ho3 (Nat.le_refl _) HQT.out hY (by have := HQL.out; simp; omega) wz hz; rw [HQM.out] at h; exact h), o.exc, o.pro⟩) ⟨Nat.le_trans HF.out.cat (by omega), Nat.le_trans HF.out.cls (by omega), Nat.le_trans HF.out.joi (by omega), Nat.le_trans HF.out.bid (by omega), Nat.le_trans HF.out.scr (by omega), Nat.le_trans HF.out.sta (by omega), Nat.le_trans HF.out.ign (by omega), Nat.le_trans HF.out.ext (by omega), Nat.le_trans HF.out.map (by omega), by simp only [List.length_append, List.length_cons, List.length_nil]; have := HF.out.dec; omega, Nat.le_trans HF.out.exc (by omega), Nat.le_trans HF.out.pro (by omega)⟩ (fun _ p n c e => row_cap ho3 e)⟩
  generalize (w3.setCell ⟨w.heap.size + 1 + 1, 9, none⟩ (.slice pv Nv cv)) = wx at HE ⊢
  clear ho1 hg1 hk1 hh1 hown ho3 hg3 hk3 hY c3 f3 ct
  generalize hrb : w.heap.size + 1 = rb at HE ⊢
  generalize hgg : w.heap.size + 1 + 1 = g at HE ⊢
  obtain ⟨⟨b0, b1, b2, b3, b4, b5, b6, b7, b8, b9, b10, b11⟩, T', he⟩ := HE.out
  have htv := he.tab wx (Keeps.refl _ _)
  obtain ⟨r0, m0, c0, hsl0⟩ : Slc b0 := htv.cat.slc
  subst hsl0
  obtain ⟨r1, m1, c1, hsl1⟩ : Slc b1 := htv.cls.slc
  subst hsl1
  obtain ⟨r2, m2, c2, hsl2⟩ : Slc b2 := htv.joi.slc
  subst hsl2
  obtain ⟨r3, m3, c3, hsl3⟩ : Slc b3 := htv.bid.slc
  subst hsl3
  obtain ⟨r4, m4, c4, hsl4⟩ : Slc b4 := htv.scr.slc
  subst hsl4
  obtain ⟨r5, m5, c5, hsl5⟩ : Slc b5 := htv.sta.slc
  subst hsl5
  obtain ⟨r6, m6, c6, hsl6⟩ : Slc b6 := htv.ign.slc
  subst hsl6
  obtain ⟨r7, m7, c7, hsl7⟩ : Slc b7 := htv.ext.slc
  subst hsl7
  obtain ⟨r8, m8, c8, hsl8⟩ : Slc b8 := htv.map.slc
  subst hsl8
  obtain ⟨r9, m9, c9, hsl9⟩ : Slc b9 := htv.dec.slc
  subst hsl9
  obtain ⟨r10, m10, c10, hsl10⟩ : Slc b10 := htv.exc.slc
  subst hsl10
  obtain ⟨r11, m11, c11, hsl11⟩ : Slc b11 := htv.pro.slc
  subst hsl11
  have HEE := Lib.hid he
  obtain ⟨⟨k0, k1, k2, k3, k4, k5⟩, ⟨k6, k7, k8, k9, k10, k11⟩⟩ := he.box.load
  simp only at k0 k1 k2 k3 k4 k5 k6 k7 k8 k9 k10 k11
  obtain ⟨s0, t0⟩ := he.res 0 (by omega)
  obtain ⟨s1, t1⟩ := he.res 1 (by omega)
  obtain ⟨s2, t2⟩ := he.res 2 (by omega)
  obtain ⟨s3, t3⟩ := he.res 3 (by omega)
  obtain ⟨s4, t4⟩ := he.res 4 (by omega)
  obtain ⟨s5, t5⟩ := he.res 5 (by omega)
  obtain ⟨s6, t6⟩ := he.res 6 (by omega)
  obtain ⟨s7, t7⟩ := he.res 7 (by omega)
  obtain ⟨s8, t8⟩ := he.res 8 (by omega)
  obtain ⟨s9, t9⟩ := he.res 9 (by omega)
  obtain ⟨s10, t10⟩ := he.res 10 (by omega)
  obtain ⟨s11, t11⟩ := he.res 11 (by omega)
  have HRB : Hid (w.heap.size ≤ rb) := by unfold Hid; omega
  clear HE he htv hrb hgg
  go_wp2
  obtain ⟨hbF, hkF⟩ := store12 wx rb (.slice r0 m0 c0) (.slice r1 m1 c1) (.slice r2 m2 c2) (.slice r3 m3 c3) (.slice r4 m4 c4) (.slice r5 m5 c5) (.slice r6 m6 c6) (.slice r7 m7 c7) (.slice r8 m8 c8) (.slice r9 m9 c9) (.slice r10 m10 c10) (.slice r11 m11 c11) HEE.out.res
  generalize (World.setCell (World.setCell (World.setCell (World.setCell (World.setCell (World.setCell (World.setCell (World.setCell (World.setCell (World.setCell (World.setCell (World.setCell (wx) ⟨rb, 0, none⟩ (.slice r0 m0 c0)) ⟨rb, 1, none⟩ (.slice r1 m1 c1)) ⟨rb, 2, none⟩ (.slice r2 m2 c2)) ⟨rb, 3, none⟩ (.slice r3 m3 c3)) ⟨rb, 4, none⟩ (.slice r4 m4 c4)) ⟨rb, 5, none⟩ (.slice r5 m5 c5)) ⟨rb, 6, none⟩ (.slice r6 m6 c6)) ⟨rb, 7, none⟩ (.slice r7 m7 c7)) ⟨rb, 8, none⟩ (.slice r8 m8 c8)) ⟨rb, 9, none⟩ (.slice r9 m9 c9)) ⟨rb, 10, none⟩ (.slice r10 m10 c10)) ⟨rb, 11, none⟩ (.slice r11 m11 c11)) = WF at hbF hkF ⊢
  obtain ⟨⟨Q0, Q1, Q2, Q3, Q4, Q5⟩, ⟨Q6, Q7, Q8, Q9, Q10, Q11⟩⟩ := hbF.load
  simp only at Q0 Q1 Q2 Q3 Q4 Q5 Q6 Q7 Q8 Q9 Q10 Q11
  refine bodyPost_ret (v := .agg #[.slice r0 m0 c0, .slice r1 m1 c1, .slice r2 m2 c2, .slice r3 m3 c3, .slice r4 m4 c4, .slice r5 m5 c5, .slice r6 m6 c6, .slice r7 m7 c7, .slice r8 m8 c8, .slice r9 m9 c9, .slice r10 m10 c10, .slice r11 m11 c11]) (by simp [results, Tryz.results10, go_sem, Q0, Q1, Q2, Q3, Q4, Q5, Q6, Q7, Q8, Q9, Q10, Q11]) rfl ?_
  exact ⟨⟨.slice r0 m0 c0, .slice r1 m1 c1, .slice r2 m2 c2, .slice r3 m3 c3, .slice r4 m4 c4, .slice r5 m5 c5, .slice r6 m6 c6, .slice r7 m7 c7, .slice r8 m8 c8, .slice r9 m9 c9, .slice r10 m10 c10, .slice r11 m11 c11⟩, T', rfl, HEE.out.tab WF hkF, HEE.out.few, HEE.out.cap, HEE.out.bel.trans (hkF.below HEE.out.bel.size (fun b _ e => by have := HRB.out; omega))⟩

set_option maxRecDepth 100000 in
set_option maxHeartbeats 4000000 in
theorem other_6 (x : TV) (T : Tb) (n : Nat) (how at' v : Int) (w : World) (hx : TabV w x T) (hf : Few n T) (hn : n ≤ 1000) (hk : Hid (pickS how 12 = 6)) :
    Calls Tryz.prog 10 #[x.agg, .int .i64 how, .int .i64 at', .int .i64 v] w (OtherPost x n w) := by
  obtain ⟨a0, a1, a2, a3, a4, a5, a6, a7, a8, a9, a10, a11⟩ := x
  obtain ⟨p0, n0, q0, hsl0⟩ : Slc a0 := hx.cat.slc
  subst hsl0
  obtain ⟨p1, n1, q1, hsl1⟩ : Slc a1 := hx.cls.slc
  subst hsl1
  obtain ⟨p2, n2, q2, hsl2⟩ : Slc a2 := hx.joi.slc
  subst hsl2
  obtain ⟨p3, n3, q3, hsl3⟩ : Slc a3 := hx.bid.slc
  subst hsl3
  obtain ⟨p4, n4, q4, hsl4⟩ : Slc a4 := hx.scr.slc
  subst hsl4
  obtain ⟨p5, n5, q5, hsl5⟩ : Slc a5 := hx.sta.slc
  subst hsl5
  obtain ⟨p6, n6, q6, hsl6⟩ : Slc a6 := hx.ign.slc
  subst hsl6
  obtain ⟨p7, n7, q7, hsl7⟩ : Slc a7 := hx.ext.slc
  subst hsl7
  obtain ⟨p8, n8, q8, hsl8⟩ : Slc a8 := hx.map.slc
  subst hsl8
  obtain ⟨p9, n9, q9, hsl9⟩ : Slc a9 := hx.dec.slc
  subst hsl9
  obtain ⟨p10, n10, q10, hsl10⟩ : Slc a10 := hx.exc.slc
  subst hsl10
  obtain ⟨p11, n11, q11, hsl11⟩ : Slc a11 := hx.pro.slc
  subst hsl11
  have hC := OCase.new w ⟨.slice p0 n0 q0, .slice p1 n1 q1, .slice p2 n2 q2, .slice p3 n3 q3, .slice p4 n4 q4, .slice p5 n5 q5, .slice p6 n6 q6, .slice p7 n7 q7, .slice p8 n8 q8, .slice p9 n9 q9, .slice p10 n10 q10, .slice p11 n11 q11⟩ 29
  obtain ⟨W, hW⟩ : ∃ W, ((w.alloc (.cells #[.slice p0 n0 q0, .slice p1 n1 q1, .slice p2 n2 q2, .slice p3 n3 q3, .slice p4 n4 q4, .slice p5 n5 q5, .slice p6 n6 q6, .slice p7 n7 q7, .slice p8 n8 q8, .slice p9 n9 q9, .slice p10 n10 q10, .slice p11 n11 q11] 29)).alloc (.cells nilC 29)).alloc (.cells #[.slice p0 n0 q0, .slice p1 n1 q1, .slice p2 n2 q2, .slice p3 n3 q3, .slice p4 n4 q4, .slice p5 n5 q5, .slice p6 n6 q6, .slice p7 n7 q7, .slice p8 n8 q8, .slice p9 n9 q9, .slice p10 n10 q10, .slice p11 n11 q11] 29) = W := ⟨_, rfl⟩
  simp only [tabCells] at hC
  rw [hW] at hC
  have HC := Lib.hid hC
  have HX := Lib.hid hx
  have HF := Lib.hid hf
  obtain ⟨pp, cc, he11, hin11, hl11⟩ := hx.pro
  injection he11 with e1 e2 e3
  subst e1
  subst e3
  obtain ⟨Q, hQm, hQi, hQt⟩ := mq_of hin11
  have hQl : Q.length = n11 := by rw [e2, ← hQm, List.length_map]
  have hle : n11 ≤ n := by rw [e2]; exact hf.pro
  have HQM := Lib.hid hQm
  have HQI := Lib.hid (hQi.below hC.bel)
  have HQT := Lib.hid hQt
  have HQL := Lib.hid hQl
  have ct : W.cell? ⟨w.heap.size, 11, none⟩ = some (.slice p11 n11 q11) := hC.cellT (by omega)
  clear hin11 hl11 hQm hQi hQt e2
  obtain ⟨z0, HZ0, hz0, hz1⟩ := pick_nm v 6 (by omega)
  obtain ⟨z, rfl⟩ : ∃ z : Nat, z0 = z := ⟨z0.toNat, by omega⟩
  obtain ⟨y, hy⟩ : ∃ y, ([7680, 109, 44032, 131072, 122, 173] : List Int).getD z 0 = y := ⟨_, rfl⟩
  have HYC : Hid (∀ W1 : World, (W1.alloc (.cells #[.int .i64 7680, .int .i64 109, .int .i64 44032, .int .i64 131072, .int .i64 122, .int .i64 173] 3)).cell? ⟨W1.heap.size, z, none⟩ = some (.int .i64 y)) := by
    intro W1
    have hz : z = 0 ∨ z = 1 ∨ z = 2 ∨ z = 3 ∨ z = 4 ∨ z = 5 := by omega
    rw [← hy]
    rcases hz with rfl | rfl | rfl | rfl | rfl | rfl <;> simp [World.cell?_alloc_new]
  clear hy
  go_enter Tryz.func10, Tryz.ntmps10
  go_wp2_with fail
  refine (pick_at how 12 6 _ (by omega) (by omega) hk).mono ?_
  rintro e wz ⟨rfl, rfl⟩
  clear hW hC hx hf hk
  go_upto_region 28 with (first
    | (at_builtin; refine wpList_append_maps (.const (.slice none 0 0)) (.tmp 113) rfl rfl W.heap.size (.slice none 0 0) [] rfl (RowQ.nil _ _) p11 n11 q11 Q HQL.out rfl HQI.out (by have := HQL.out; simp; omega) (Nat.le_refl _) ?_; intro v1 w1 ho1 hg1; have hk1 : Keeps W w1 (fun _ => False) := keeps_g hg1; have hh1 := hk1.size; have y1 : (w1.alloc (.cells #[.int .i64 7680, .int .i64 109, .int .i64 44032, .int .i64 131072, .int .i64 122, .int .i64 173] 3)).cell? ⟨w1.heap.size, z, none⟩ = some (.int .i64 y) := HYC.out w1)
    | (go_at_call 9; (with_reducible refine (pick_at v 6 z _ (by omega) (by omega) HZ0).mono ?_); rintro e wn ⟨rfl, rfl⟩)
    | (at_builtin; refine wpList_append_map1 (.tmp 114) (.tmp 122) rfl rfl W.heap.size v1 ([] ++ Q) rfl (World.ownsRow.alloc (World.ownsRow.alloc ho1 _) _) 131072 [y] _ _ _ rfl (by simp) rfl (by have := HQL.out; simp; omega) (Nat.le_trans hh1 (by simp <;> omega)) ?_; intro v3 w3 ho3 hg3; have hk3 : Keeps W w3 (fun _ => False) := keeps_two hk1 ho1 (ka3 w1 _ _ _) hg3; have hcf : w3.cell? ⟨w.heap.size + 1 + 1, 11, none⟩ = some (.slice p11 n11 q11) ∧ w3.frozen? ⟨w.heap.size + 1 + 1, 11, none⟩ = false := HC.out.cellG hk3 (by omega); obtain ⟨c3, f3⟩ := hcf; obtain ⟨pv, cv, Nv, rfl⟩ : ∃ p c N, v3 = .slice p N c := (by obtain ⟨p, c, e⟩ := RowQ.slice ho3; exact ⟨p, c, _, e⟩)))
  have hown : ∀ k, v1.ownBlock = some k → k < w1.heap.size := fun k hk => (World.ownsRow.lt ho1 k hk).2
  rw [List.nil_append] at ho3
  have hY : ∀ q ∈ [((131072, [y]), .slice (some ⟨w1.heap.size + 1, 0, none⟩) 1 1)], NewTo W w3 q := by
    intro q hq
    simp only [List.mem_cons, List.not_mem_nil, or_false] at hq
    subst hq
    exact new_to (W := W) (b := w1.heap.size + 1) (off := 0) ((ints_cells (w1.alloc (.cells #[.int .i64 7680, .int .i64 109, .int .i64 44032, .int .i64 131072, .int .i64 122, .int .i64 173] 3)) #[.int .i64 y] 3 0 [y] (by simp) (by intro k hk; have hk2 : k = 0 := (by simp at hk; omega); rcases hk2 with rfl <;> rfl)).alloc _) (by simp) hg3 (fun k hk => Nat.lt_succ_of_lt (hown k hk)) (Nat.le_succ_of_le hh1) rfl
  have HE : Hid (∃ x' T', OEnd w (w.heap.size + 1 + 1) (w.heap.size + 1) n ⟨.slice p0 n0 q0, .slice p1 n1 q1, .slice p2 n2 q2, .slice p3 n3 q3, .slice p4 n4 q4, .slice p5 n5 q5, .slice p6 n6 q6, .slice p7 n7 q7, .slice p8 n8 q8, .slice p9 n9 q9, .slice p10 n10 q10, .slice p11 n11 q11⟩ (w3.setCell ⟨w.heap.size + 1 + 1, 11, none⟩ (.slice pv Nv cv)) x' T') :=
    ⟨_, { T with pro := T.pro ++ [(131072, [y])] }, HC.out.fin (i := 11) (by omega) hk3 (fun wz hz => by
      have o := HC.out.oldT HX.out hk3 wz hz
      exact ⟨o.cat, o.cls, o.joi, o.bid, o.scr, o.sta, o.ign, o.ext, o.map, o.dec, o.exc, (by have h := HC.out.maps hk3 ho3 (Nat.le_refl _) HQT.out hY (by have := HQL.out; simp; omega) wz hz; rw [HQM.out] at h; exact h)⟩) ⟨Nat.le_trans HF.out.cat (by omega), Nat.le_trans HF.out.cls (by omega), Nat.le_trans HF.out.joi (by omega), Nat.le_trans HF.out.bid (by omega), Nat.le_trans HF.out.scr (by omega), Nat.le_trans HF.out.sta (by omega), Nat.le_trans HF.out.ign (by omega), Nat.le_trans HF.out.ext (by omega), Nat.le_trans HF.out.map (by omega), Nat.le_trans HF.out.dec (by omega), Nat.le_trans HF.out.exc (by omega), by simp only [List.length_append, List.length_cons, List.length_nil]; have := HF.out.pro; omega⟩ (fun h p n c e => h p n c e)⟩
  generalize (w3.setCell ⟨w.heap.size + 1 + 1, 11, none⟩ (.slice pv Nv cv)) = wx at HE ⊢
  clear ho1 hg1 hk1 hh1 hown ho3 hg3 hk3 hY c3 f3 ct
  generalize hrb : w.heap.size + 1 = rb at HE ⊢
  generalize hgg : w.heap.size + 1 + 1 = g at HE ⊢
  obtain ⟨⟨b0, b1, b2, b3, b4, b5, b6, b7, b8, b9, b10, b11⟩, T', he⟩ := HE.out
  have htv := he.tab wx (Keeps.refl _ _)
  obtain ⟨r0, m0, c0, hsl0⟩ : Slc b0 := htv.cat.slc
  subst hsl0
  obtain ⟨r1, m1, c1, hsl1⟩ : Slc b1 := htv.cls.slc
  subst hsl1
  obtain ⟨r2, m2, c2, hsl2⟩ : Slc b2 := htv.joi.slc
  subst hsl2
  obtain ⟨r3, m3, c3, hsl3⟩ : Slc b3 := htv.bid.slc
  subst hsl3
  obtain ⟨r4, m4, c4, hsl4⟩ : Slc b4 := htv.scr.slc
  subst hsl4
  obtain ⟨r5, m5, c5, hsl5⟩ : Slc b5 := htv.sta.slc
  subst hsl5
  obtain ⟨r6, m6, c6, hsl6⟩ : Slc b6 := htv.ign.slc
  subst hsl6
  obtain ⟨r7, m7, c7, hsl7⟩ : Slc b7 := htv.ext.slc
  subst hsl7
  obtain ⟨r8, m8, c8, hsl8⟩ : Slc b8 := htv.map.slc
  subst hsl8
  obtain ⟨r9, m9, c9, hsl9⟩ : Slc b9 := htv.dec.slc
  subst hsl9
  obtain ⟨r10, m10, c10, hsl10⟩ : Slc b10 := htv.exc.slc
  subst hsl10
  obtain ⟨r11, m11, c11, hsl11⟩ : Slc b11 := htv.pro.slc
  subst hsl11
  have HEE := Lib.hid he
  obtain ⟨⟨k0, k1, k2, k3, k4, k5⟩, ⟨k6, k7, k8, k9, k10, k11⟩⟩ := he.box.load
  simp only at k0 k1 k2 k3 k4 k5 k6 k7 k8 k9 k10 k11
  obtain ⟨s0, t0⟩ := he.res 0 (by omega)
  obtain ⟨s1, t1⟩ := he.res 1 (by omega)
  obtain ⟨s2, t2⟩ := he.res 2 (by omega)
  obtain ⟨s3, t3⟩ := he.res 3 (by omega)
  obtain ⟨s4, t4⟩ := he.res 4 (by omega)
  obtain ⟨s5, t5⟩ := he.res 5 (by omega)
  obtain ⟨s6, t6⟩ := he.res 6 (by omega)
  obtain ⟨s7, t7⟩ := he.res 7 (by omega)
  obtain ⟨s8, t8⟩ := he.res 8 (by omega)
  obtain ⟨s9, t9⟩ := he.res 9 (by omega)
  obtain ⟨s10, t10⟩ := he.res 10 (by omega)
  obtain ⟨s11, t11⟩ := he.res 11 (by omega)
  have HRB : Hid (w.heap.size ≤ rb) := by unfold Hid; omega
  clear HE he htv hrb hgg
  go_wp2
  obtain ⟨hbF, hkF⟩ := store12 wx rb (.slice r0 m0 c0) (.slice r1 m1 c1) (.slice r2 m2 c2) (.slice r3 m3 c3) (.slice r4 m4 c4) (.slice r5 m5 c5) (.slice r6 m6 c6) (.slice r7 m7 c7) (.slice r8 m8 c8) (.slice r9 m9 c9) (.slice r10 m10 c10) (.slice r11 m11 c11) HEE.out.res
  generalize (World.setCell (World.setCell (World.setCell (World.setCell (World.setCell (World.setCell (World.setCell (World.setCell (World.setCell (World.setCell (World.setCell (World.setCell (wx) ⟨rb, 0, none⟩ (.slice r0 m0 c0)) ⟨rb, 1, none⟩ (.slice r1 m1 c1)) ⟨rb, 2, none⟩ (.slice r2 m2 c2)) ⟨rb, 3, none⟩ (.slice r3 m3 c3)) ⟨rb, 4, none⟩ (.slice r4 m4 c4)) ⟨rb, 5, none⟩ (.slice r5 m5 c5)) ⟨rb, 6, none⟩ (.slice r6 m6 c6)) ⟨rb, 7, none⟩ (.slice r7 m7 c7)) ⟨rb, 8, none⟩ (.slice r8 m8 c8)) ⟨rb, 9, none⟩ (.slice r9 m9 c9)) ⟨rb, 10, none⟩ (.slice r10 m10 c10)) ⟨rb, 11, none⟩ (.slice r11 m11 c11)) = WF at hbF hkF ⊢
  obtain ⟨⟨Q0, Q1, Q2, Q3, Q4, Q5⟩, ⟨Q6, Q7, Q8, Q9, Q10, Q11⟩⟩ := hbF.load
  simp only at Q0 Q1 Q2 Q3 Q4 Q5 Q6 Q7 Q8 Q9 Q10 Q11
  refine bodyPost_ret (v := .agg #[.slice r0 m0 c0, .slice r1 m1 c1, .slice r2 m2 c2, .slice r3 m3 c3, .slice r4 m4 c4, .slice r5 m5 c5, .slice r6 m6 c6, .slice r7 m7 c7, .slice r8 m8 c8, .slice r9 m9 c9, .slice r10 m10 c10, .slice r11 m11 c11]) (by simp [results, Tryz.results10, go_sem, Q0, Q1, Q2, Q3, Q4, Q5, Q6, Q7, Q8, Q9, Q10, Q11]) rfl ?_
  exact ⟨⟨.slice r0 m0 c0, .slice r1 m1 c1, .slice r2 m2 c2, .slice r3 m3 c3, .slice r4 m4 c4, .slice r5 m5 c5, .slice r6 m6 c6, .slice r7 m7 c7, .slice r8 m8 c8, .slice r9 m9 c9, .slice r10 m10 c10, .slice r11 m11 c11⟩, T', rfl, HEE.out.tab WF hkF, HEE.out.few, HEE.out.cap, HEE.out.bel.trans (hkF.below HEE.out.bel.size (fun b _ e => by have := HRB.out; omega))⟩

set_option maxRecDepth 100000 in
set_option maxHeartbeats 4000000 in
theorem other_8 (x : TV) (T : Tb) (n : Nat) (how at' v : Int) (w : World) (hx : TabV w x T) (hf : Few n T) (hn : n ≤ 1000) (hk : Hid (pickS how 12 = 8)) :
    Calls Tryz.prog 10 #[x.agg, .int .i64 how, .int .i64 at', .int .i64 v] w (OtherPost x n w) := by
  obtain ⟨a0, a1, a2, a3, a4, a5, a6, a7, a8, a9, a10, a11⟩ := x
  obtain ⟨p0, n0, q0, hsl0⟩ : Slc a0 := hx.cat.slc
  subst hsl0
  obtain ⟨p1, n1, q1, hsl1⟩ : Slc a1 := hx.cls.slc
  subst hsl1
  obtain ⟨p2, n2, q2, hsl2⟩ : Slc a2 := hx.joi.slc
  subst hsl2
  obtain ⟨p3, n3, q3, hsl3⟩ : Slc a3 := hx.bid.slc
  subst hsl3
  obtain ⟨p4, n4, q4, hsl4⟩ : Slc a4 := hx.scr.slc
  subst hsl4
  obtain ⟨p5, n5, q5, hsl5⟩ : Slc a5 := hx.sta.slc
  subst hsl5
  obtain ⟨p6, n6, q6, hsl6⟩ : Slc a6 := hx.ign.slc
  subst hsl6
  obtain ⟨p7, n7, q7, hsl7⟩ : Slc a7 := hx.ext.slc
  subst hsl7
  obtain ⟨p8, n8, q8, hsl8⟩ : Slc a8 := hx.map.slc
  subst hsl8
  obtain ⟨p9, n9, q9, hsl9⟩ : Slc a9 := hx.dec.slc
  subst hsl9
  obtain ⟨p10, n10, q10, hsl10⟩ : Slc a10 := hx.exc.slc
  subst hsl10
  obtain ⟨p11, n11, q11, hsl11⟩ : Slc a11 := hx.pro.slc
  subst hsl11
  have hC := OCase.new w ⟨.slice p0 n0 q0, .slice p1 n1 q1, .slice p2 n2 q2, .slice p3 n3 q3, .slice p4 n4 q4, .slice p5 n5 q5, .slice p6 n6 q6, .slice p7 n7 q7, .slice p8 n8 q8, .slice p9 n9 q9, .slice p10 n10 q10, .slice p11 n11 q11⟩ 29
  obtain ⟨W, hW⟩ : ∃ W, ((w.alloc (.cells #[.slice p0 n0 q0, .slice p1 n1 q1, .slice p2 n2 q2, .slice p3 n3 q3, .slice p4 n4 q4, .slice p5 n5 q5, .slice p6 n6 q6, .slice p7 n7 q7, .slice p8 n8 q8, .slice p9 n9 q9, .slice p10 n10 q10, .slice p11 n11 q11] 29)).alloc (.cells nilC 29)).alloc (.cells #[.slice p0 n0 q0, .slice p1 n1 q1, .slice p2 n2 q2, .slice p3 n3 q3, .slice p4 n4 q4, .slice p5 n5 q5, .slice p6 n6 q6, .slice p7 n7 q7, .slice p8 n8 q8, .slice p9 n9 q9, .slice p10 n10 q10, .slice p11 n11 q11] 29) = W := ⟨_, rfl⟩
  simp only [tabCells] at hC
  rw [hW] at hC
  have HC := Lib.hid hC
  have HX := Lib.hid hx
  have HF := Lib.hid hf
  obtain ⟨pp, cc, he7, hin7, hl7⟩ := hx.ext
  injection he7 with e1 e2 e3
  subst e1
  subst e3
  obtain ⟨Q, hQm, hQi, hQt⟩ := mq_of hin7
  have hQl : Q.length = n7 := by rw [e2, ← hQm, List.length_map]
  have hle : n7 ≤ n := by rw [e2]; exact hf.ext
  have HQM := Lib.hid hQm
  have HQI := Lib.hid (hQi.below hC.bel)
  have HQT := Lib.hid hQt
  have HQL := Lib.hid hQl
  have ct : W.cell? ⟨w.heap.size, 7, none⟩ = some (.slice p7 n7 q7) := hC.cellT (by omega)
  clear hin7 hl7 hQm hQi hQt e2
  obtain ⟨z0, HZ0, hz0, hz1⟩ := pick_nm v 5 (by omega)
  obtain ⟨z, rfl⟩ : ∃ z : Nat, z0 = z := ⟨z0.toNat, by omega⟩
  obtain ⟨y, hy⟩ : ∃ y, ([2, 3, 4, 60, 61] : List Int).getD z 0 = y := ⟨_, rfl⟩
  have HYC : Hid (∀ W1 : World, (W1.alloc (.cells #[.int .i64 2, .int .i64 3, .int .i64 4, .int .i64 60, .int .i64 61] 3)).cell? ⟨W1.heap.size, z, none⟩ = some (.int .i64 y)) := by
    intro W1
    have hz : z = 0 ∨ z = 1 ∨ z = 2 ∨ z = 3 ∨ z = 4 := by omega
    rw [← hy]
    rcases hz with rfl | rfl | rfl | rfl | rfl <;> simp [World.cell?_alloc_new]
  clear hy
  go_enter Tryz.func10, Tryz.ntmps10
  go_wp2_with fail
  refine (pick_at how 12 8 _ (by omega) (by omega) hk).mono ?_
  rintro e wz ⟨rfl, rfl⟩
  clear hW hC hx hf hk
  go_upto_region 28 with (first
    | (at_builtin; refine wpList_append_maps (.const (.slice none 0 0)) (.tmp 138) rfl rfl W.heap.size (.slice none 0 0) [] rfl (RowQ.nil _ _) p7 n7 q7 Q HQL.out rfl HQI.out (by have := HQL.out; simp; omega) (Nat.le_refl _) ?_; intro v1 w1 ho1 hg1; have hk1 : Keeps W w1 (fun _ => False) := keeps_g hg1; have hh1 := hk1.size; have y1 : (w1.alloc (.cells #[.int .i64 2, .int .i64 3, .int .i64 4, .int .i64 60, .int .i64 61] 3)).cell? ⟨w1.heap.size, z, none⟩ = some (.int .i64 y) := HYC.out w1)
    | (go_at_call 9; (with_reducible refine (pick_at v 5 z _ (by omega) (by omega) HZ0).mono ?_); rintro e wn ⟨rfl, rfl⟩)
    | (at_builtin; refine wpList_append_map1 (.tmp 139) (.tmp 147) rfl rfl W.heap.size v1 ([] ++ Q) rfl (World.ownsRow.alloc (World.ownsRow.alloc ho1 _) _) 131072 [3, y] _ _ _ rfl (by simp) rfl (by have := HQL.out; simp; omega) (Nat.le_trans hh1 (by simp <;> omega)) ?_; intro v3 w3 ho3 hg3; have hk3 : Keeps W w3 (fun _ => False) := keeps_two hk1 ho1 (ka3 w1 _ _ _) hg3; have hcf : w3.cell? ⟨w.heap.size + 1 + 1, 7, none⟩ = some (.slice p7 n7 q7) ∧ w3.frozen? ⟨w.heap.size + 1 + 1, 7, none⟩ = false := HC.out.cellG hk3 (by omega); obtain ⟨c3, f3⟩ := hcf; obtain ⟨pv, cv, Nv, rfl⟩ : ∃ p c N, v3 = .slice p N c := (by obtain ⟨p, c, e⟩ := RowQ.slice ho3; exact ⟨p, c, _, e⟩)))
  have hown : ∀ k, v1.ownBlock = some k → k < w1.heap.size := fun k hk => (World.ownsRow.lt ho1 k hk).2
  rw [List.nil_append] at ho3
  have hY : ∀ q ∈ [((131072, [3, y]), .slice (some ⟨w1.heap.size + 1, 0, none⟩) 2 2)], NewTo W w3 q := by
    intro q hq
    simp only [List.mem_cons, List.not_mem_nil, or_false] at hq
    subst hq
    exact new_to (W := W) (b := w1.heap.size + 1) (off := 0) ((ints_cells (w1.alloc (.cells #[.int .i64 2, .int .i64 3, .int .i64 4, .int .i64 60, .int .i64 61] 3)) #[.int .i64 3, .int .i64 y] 3 0 [3, y] (by simp) (by intro k hk; have hk2 : k = 0 ∨ k = 1 := (by simp at hk; omega); rcases hk2 with rfl | rfl <;> rfl)).alloc _) (by simp) hg3 (fun k hk => Nat.lt_succ_of_lt (hown k hk)) (Nat.le_succ_of_le hh1) rfl
  have HE : Hid (∃ x' T', OEnd w (w.heap.size + 1 + 1) (w.heap.size + 1) n ⟨.slice p0 n0 q0, .slice p1 n1 q1, .slice p2 n2 q2, .slice p3 n3 q3, .slice p4 n4 q4, .slice p5 n5 q5, .slice p6 n6 q6, .slice p7 n7 q7, .slice p8 n8 q8, .slice p9 n9 q9, .slice p10 n10 q10, .slice p11 n11 q11⟩ (w3.setCell ⟨w.heap.size + 1 + 1, 7, none⟩ (.slice pv Nv cv)) x' T') :=
    ⟨_, { T with ext := T.ext ++ [(131072, [3, y])] }, HC.out.fin (i := 7) (by omega) hk3 (fun wz hz => by
      have o := HC.out.oldT HX.out hk3 wz hz
      exact ⟨o.cat, o.cls, o.joi, o.bid, o.scr, o.sta, o.ign, (by have h := HC.out.maps hk3 ho3 (Nat.le_refl _) HQT.out hY (by have := HQL.out; simp; omega) wz hz; rw [HQM.out] at h; exact h), o.map, o.dec, o.exc, o.pro⟩) ⟨Nat.le_trans HF.out.cat (by omega), Nat.le_trans HF.out.cls (by omega), Nat.le_trans HF.out.joi (by omega), Nat.le_trans HF.out.bid (by omega), Nat.le_trans HF.out.scr (by omega), Nat.le_trans HF.out.sta (by omega), Nat.le_trans HF.out.ign (by omega), by simp only [List.length_append, List.length_cons, List.length_nil]; have := HF.out.ext; omega, Nat.le_trans HF.out.map (by omega), Nat.le_trans HF.out.dec (by omega), Nat.le_trans HF.out.exc (by omega), Nat.le_trans HF.out.pro (by omega)⟩ (fun h p n c e => h p n c e)⟩
  generalize (w3.setCell ⟨w.heap.size + 1 + 1, 7, none⟩ (.slice pv Nv cv)) = wx at HE ⊢
  clear ho1 hg1 hk1 hh1 hown ho3 hg3 hk3 hY c3 f3 ct
  generalize hrb : w.heap.size + 1 = rb at HE ⊢
  generalize hgg : w.heap.size + 1 + 1 = g at HE ⊢
  obtain ⟨⟨b0, b1, b2, b3, b4, b5, b6, b7, b8, b9, b10, b11⟩, T', he⟩ := HE.out
  have htv := he.tab wx (Keeps.refl _ _)
  obtain ⟨r0, m0, c0, hsl0⟩ : Slc b0 := htv.cat.slc
  subst hsl0
  obtain ⟨r1, m1, c1, hsl1⟩ : Slc b1 := htv.cls.slc
  subst hsl1
  obtain ⟨r2, m2, c2, hsl2⟩ : Slc b2 := htv.joi.slc
  subst hsl2
  obtain ⟨r3, m3, c3, hsl3⟩ : Slc b3 := htv.bid.slc
  subst hsl3
  obtain ⟨r4, m4, c4, hsl4⟩ : Slc b4 := htv.scr.slc
  subst hsl4
  obtain ⟨r5, m5, c5, hsl5⟩ : Slc b5 := htv.sta.slc
  subst hsl5
  obtain ⟨r6, m6, c6, hsl6⟩ : Slc b6 := htv.ign.slc
  subst hsl6
  obtain ⟨r7, m7, c7, hsl7⟩ : Slc b7 := htv.ext.slc
  subst hsl7
  obtain ⟨r8, m8, c8, hsl8⟩ : Slc b8 := htv.map.slc
  subst hsl8
  obtain ⟨r9, m9, c9, hsl9⟩ : Slc b9 := htv.dec.slc
  subst hsl9
  obtain ⟨r10, m10, c10, hsl10⟩ : Slc b10 := htv.exc.slc
  subst hsl10
  obtain ⟨r11, m11, c11, hsl11⟩ : Slc b11 := htv.pro.slc
  subst hsl11
  have HEE := Lib.hid he
  obtain ⟨⟨k0, k1, k2, k3, k4, k5⟩, ⟨k6, k7, k8, k9, k10, k11⟩⟩ := he.box.load
  simp only at k0 k1 k2 k3 k4 k5 k6 k7 k8 k9 k10 k11
  obtain ⟨s0, t0⟩ := he.res 0 (by omega)
  obtain ⟨s1, t1⟩ := he.res 1 (by omega)
  obtain ⟨s2, t2⟩ := he.res 2 (by omega)
  obtain ⟨s3, t3⟩ := he.res 3 (by omega)
  obtain ⟨s4, t4⟩ := he.res 4 (by omega)
  obtain ⟨s5, t5⟩ := he.res 5 (by omega)
  obtain ⟨s6, t6⟩ := he.res 6 (by omega)
  obtain ⟨s7, t7⟩ := he.res 7 (by omega)
  obtain ⟨s8, t8⟩ := he.res 8 (by omega)
  obtain ⟨s9, t9⟩ := he.res 9 (by omega)
  obtain ⟨s10, t10⟩ := he.res 10 (by omega)
  obtain ⟨s11, t11⟩ := he.res 11 (by omega)
  have HRB : Hid (w.heap.size ≤ rb) := by unfold Hid; omega
  clear HE he htv hrb hgg
  go_wp2
  obtain ⟨hbF, hkF⟩ := store12 wx rb (.slice r0 m0 c0) (.slice r1 m1 c1) (.slice r2 m2 c2) (.slice r3 m3 c3) (.slice r4 m4 c4) (.slice r5 m5 c5) (.slice r6 m6 c6) (.slice r7 m7 c7) (.slice r8 m8 c8) (.slice r9 m9 c9) (.slice r10 m10 c10) (.slice r11 m11 c11) HEE.out.res
  generalize (World.setCell (World.setCell (World.setCell (World.setCell (World.setCell (World.setCell (World.setCell (World.setCell (World.setCell (World.setCell (World.setCell (World.setCell (wx) ⟨rb, 0, none⟩ (.slice r0 m0 c0)) ⟨rb, 1, none⟩ (.slice r1 m1 c1)) ⟨rb, 2, none⟩ (.slice r2 m2 c2)) ⟨rb, 3, none⟩ (.slice r3 m3 c3)) ⟨rb, 4, none⟩ (.slice r4 m4 c4)) ⟨rb, 5, none⟩ (.slice r5 m5 c5)) ⟨rb, 6, none⟩ (.slice r6 m6 c6)) ⟨rb, 7, none⟩ (.slice r7 m7 c7)) ⟨rb, 8, none⟩ (.slice r8 m8 c8)) ⟨rb, 9, none⟩ (.slice r9 m9 c9)) ⟨rb, 10, none⟩ (.slice r10 m10 c10)) ⟨rb, 11, none⟩ (.slice r11 m11 c11)) = WF at hbF hkF ⊢
  obtain ⟨⟨Q0, Q1, Q2, Q3, Q4, Q5⟩, ⟨Q6, Q7, Q8, Q9, Q10, Q11⟩⟩ := hbF.load
  simp only at Q0 Q1 Q2 Q3 Q4 Q5 Q6 Q7 Q8 Q9 Q10 Q11
  refine bodyPost_ret (v := .agg #[.slice r0 m0 c0, .slice r1 m1 c1, .slice r2 m2 c2, .slice r3 m3 c3, .slice r4 m4 c4, .slice r5 m5 c5, .slice r6 m6 c6, .slice r7 m7 c7, .slice r8 m8 c8, .slice r9 m9 c9, .slice r10 m10 c10, .slice r11 m11 c11]) (by simp [results, Tryz.results10, go_sem, Q0, Q1, Q2, Q3, Q4, Q5, Q6, Q7, Q8, Q9, Q10, Q11]) rfl ?_
  exact ⟨⟨.slice r0 m0 c0, .slice r1 m1 c1, .slice r2 m2 c2, .slice r3 m3 c3, .slice r4 m4 c4, .slice r5 m5 c5, .slice r6 m6 c6, .slice r7 m7 c7, .slice r8 m8 c8, .slice r9 m9 c9, .slice r10 m10 c10, .slice r11 m11 c11⟩, T', rfl, HEE.out.tab WF hkF, HEE.out.few, HEE.out.cap, HEE.out.bel.trans (hkF.below HEE.out.bel.size (fun b _ e => by have := HRB.out; omega))⟩

end Go.Proofs.YtnnhcgflmhjakaaGreatDoor
