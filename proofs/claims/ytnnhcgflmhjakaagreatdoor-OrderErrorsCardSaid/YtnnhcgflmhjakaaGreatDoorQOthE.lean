/-
  keep.Other: the cases K2 (genO.py).
-/
import Derived.Test.YtnnhcgflmhjakaaGreatDoorPkH
set_option linter.unusedSimpArgs false
set_option linter.unusedVariables false
namespace Go.Proofs.YtnnhcgflmhjakaaGreatDoor
open Go.RowKit
set_option linter.unusedVariables false

set_option maxRecDepth 100000 in
set_option maxHeartbeats 4000000 in
theorem other_2 (x : TV) (T : Tb) (n : Nat) (how at' v : Int) (w : World) (hx : TabV w x T) (hf : Few n T) (hn : n ≤ 1000) (hk : Hid (pickS how 12 = 2)) :
    Calls Tryz.prog 10 #[x.agg, .int .i64 how, .int .i64 at', .int .i64 v] w (OtherPost x n w) := by
  obtain ⟨a0, a1, a2, a3, a4, a5, a6, a7, a8, a9, a10, a11⟩ := x
  obtain ⟨p0, n0, q0, hsl0⟩ : Slc a0 := hx.cat.slc
  subst hsl0
  obtain ⟨p1, n1, q1, hsl1⟩ : Slc a1 := hx.cls.slc
  subst hsl1
  obtain ⟨p2, n2, q2, hsl2⟩ : Slc a2 := hx.joi.slc
  subst hsl2
  obtain ⟨p3, n3, q3, hsl3⟩ : Slc a3 := hx.bid.slc
  subst hsl3
  obtain ⟨p4, n4, q4, hsl4⟩ : Slc a4 := hx.scr.slc
  subst hsl4
  obtain ⟨p5, n5, q5, hsl5⟩ : Slc a5 := hx.sta.slc
  subst hsl5
  obtain ⟨p6, n6, q6, hsl6⟩ : Slc a6 := hx.ign.slc
  subst hsl6
  obtain ⟨p7, n7, q7, hsl7⟩ : Slc a7 := hx.ext.slc
  subst hsl7
  obtain ⟨p8, n8, q8, hsl8⟩ : Slc a8 := hx.map.slc
  subst hsl8
  obtain ⟨p9, n9, q9, hsl9⟩ : Slc a9 := hx.dec.slc
  subst hsl9
  obtain ⟨p10, n10, q10, hsl10⟩ : Slc a10 := hx.exc.slc
  subst hsl10
  obtain ⟨p11, n11, q11, hsl11⟩ : Slc a11 := hx.pro.slc
  subst hsl11
  have hC := OCase.new w ⟨.slice p0 n0 q0, .slice p1 n1 q1, .slice p2 n2 q2, .slice p3 n3 q3, .slice p4 n4 q4, .slice p5 n5 q5, .slice p6 n6 q6, .slice p7 n7 q7, .slice p8 n8 q8, .slice p9 n9 q9, .slice p10 n10 q10, .slice p11 n11 q11⟩ 29
  obtain ⟨W, hW⟩ : ∃ W, ((w.alloc (.cells #[.slice p0 n0 q0, .slice p1 n1 q1, .slice p2 n2 q2, .slice p3 n3 q3, .slice p4 n4 q4, .slice p5 n5 q5, .slice p6 n6 q6, .slice p7 n7 q7, .slice p8 n8 q8, .slice p9 n9 q9, .slice p10 n10 q10, .slice p11 n11 q11] 29)).alloc (.cells nilC 29)).alloc (.cells #[.slice p0 n0 q0, .slice p1 n1 q1, .slice p2 n2 q2, .slice p3 n3 q3, .slice p4 n4 q4, .slice p5 n5 q5, .slice p6 n6 q6, .slice p7 n7 q7, .slice p8 n8 q8, .slice p9 n9 q9, .slice p10 n10 q10, .slice p11 n11 q11] 29) = W := ⟨_, rfl⟩
  simp only [tabCells] at hC
  rw [hW] at hC
  have HC := Lib.hid hC
  have HX := Lib.hid hx
  have HF := Lib.hid hf
  obtain ⟨pp, cc, he0, hin0, hl0⟩ := hx.cat
  injection he0 with e1 e2 e3
  subst e1
  subst e3
  have hle : n0 ≤ n := by rw [e2]; exact hf.cat
  have HQL : Hid (T.cat.length = n0) := e2.symm
  have HQI := Lib.hid (hin0.below hC.bel)
  have ct : W.cell? ⟨w.heap.size, 0, none⟩ = some (.slice p0 n0 q0) := hC.cellT (by omega)
  have ct2 : ∀ o, (W.alloc o).cell? ⟨w.heap.size, 0, none⟩ = some (.slice p0 n0 q0) := fun o => (Keeps.alloc W o).cell ct (fun e => e)
  clear hin0 hl0 e2
  obtain ⟨z, HZ, y0, y1⟩ := pick_nm v 300 (by omega)
  go_enter Tryz.func10, Tryz.ntmps10
  go_wp2_with fail
  refine (pick_at how 12 2 _ (by omega) (by omega) hk).mono ?_
  rintro e wz ⟨rfl, rfl⟩
  clear hW hC hx hf hk
  go_upto_region 9 with (fail)
  go_region_law (first
    | (go_simp
       go_at_call 9
       refine (pick_at v 300 z _ (by omega) (by omega) HZ).mono ?_
       rintro e wn ⟨rfl, rfl⟩)
    | (refine step_append_spans (by rfl) _ _ (by rfl) W.heap.size (.slice (some ⟨W.heap.size, 0, none⟩) 1 1) [(z, z, 1)] (by rfl) (by first | exact World.ownsRow_lit (base := W.heap.size) (e := 65) (size := 3) W #[.int .i64 z, .int .i64 z, .int .i64 1] 1 (Nat.le_refl _) (by unfold maxLen; omega) rfl | exact World.ownsRow_lit (base := W.heap.size) (e := 65) (size := 3) W.drew #[.int .i64 z, .int .i64 z, .int .i64 1] 1 (Nat.le_refl _) (by unfold maxLen; omega) rfl) p0 n0 q0 T.cat HQL.out (by rfl) (by first | exact HQI.out.alloc _ | exact HQI.out) (by have := HQL.out; simp; omega) (by simp) ?_
       intro v3 w3 ho3 hg3
       have hk3 : Keeps W w3 (fun _ => False) := keeps_lit hg3
       have hcf : w3.cell? ⟨w.heap.size + 1 + 1, 0, none⟩ = some (.slice p0 n0 q0) ∧ w3.frozen? ⟨w.heap.size + 1 + 1, 0, none⟩ = false := HC.out.cellG hk3 (by omega)
       obtain ⟨c3, f3⟩ := hcf
       obtain ⟨pv, cv, Nv, rfl⟩ : ∃ p c N, v3 = .slice p N c := by obtain ⟨p, c, e, _⟩ := ho3.inn; exact ⟨p, c, _, e⟩))
  all_goals
    have HE : Hid (∃ x' T', OEnd w (w.heap.size + 1 + 1) (w.heap.size + 1) n ⟨.slice p0 n0 q0, .slice p1 n1 q1, .slice p2 n2 q2, .slice p3 n3 q3, .slice p4 n4 q4, .slice p5 n5 q5, .slice p6 n6 q6, .slice p7 n7 q7, .slice p8 n8 q8, .slice p9 n9 q9, .slice p10 n10 q10, .slice p11 n11 q11⟩ (w3.setCell ⟨w.heap.size + 1 + 1, 0, none⟩ (.slice pv Nv cv)) x' T') :=
      ⟨_, { T with cat := [(z, z, 1)] ++ T.cat }, HC.out.fin (i := 0) (by omega) hk3 (fun wz hz => by
        have o := HC.out.oldT HX.out hk3 wz hz
        exact ⟨HC.out.spans ho3 (Nat.le_refl _) (by have := HQL.out; simp; omega) wz hz, o.cls, o.joi, o.bid, o.scr, o.sta, o.ign, o.ext, o.map, o.dec, o.exc, o.pro⟩) ⟨by simp only [List.length_append, List.length_cons, List.length_nil]; have := HF.out.cat; omega, Nat.le_trans HF.out.cls (by omega), Nat.le_trans HF.out.joi (by omega), Nat.le_trans HF.out.bid (by omega), Nat.le_trans HF.out.scr (by omega), Nat.le_trans HF.out.sta (by omega), Nat.le_trans HF.out.ign (by omega), Nat.le_trans HF.out.ext (by omega), Nat.le_trans HF.out.map (by omega), Nat.le_trans HF.out.dec (by omega), Nat.le_trans HF.out.exc (by omega), Nat.le_trans HF.out.pro (by omega)⟩ (fun h p n c e => h p n c e)⟩
    generalize (w3.setCell ⟨w.heap.size + 1 + 1, 0, none⟩ (.slice pv Nv cv)) = wx at HE ⊢
    clear ho3 hg3 hk3 c3 f3 ct ct2
    generalize hrb : w.heap.size + 1 = rb at HE ⊢
    generalize hgg : w.heap.size + 1 + 1 = g at HE ⊢
    obtain ⟨⟨b0, b1, b2, b3, b4, b5, b6, b7, b8, b9, b10, b11⟩, T', he⟩ := HE.out
    have htv := he.tab wx (Keeps.refl _ _)
    obtain ⟨r0, m0, c0, hsl0⟩ : Slc b0 := htv.cat.slc
    subst hsl0
    obtain ⟨r1, m1, c1, hsl1⟩ : Slc b1 := htv.cls.slc
    subst hsl1
    obtain ⟨r2, m2, c2, hsl2⟩ : Slc b2 := htv.joi.slc
    subst hsl2
    obtain ⟨r3, m3, c3, hsl3⟩ : Slc b3 := htv.bid.slc
    subst hsl3
    obtain ⟨r4, m4, c4, hsl4⟩ : Slc b4 := htv.scr.slc
    subst hsl4
    obtain ⟨r5, m5, c5, hsl5⟩ : Slc b5 := htv.sta.slc
    subst hsl5
    obtain ⟨r6, m6, c6, hsl6⟩ : Slc b6 := htv.ign.slc
    subst hsl6
    obtain ⟨r7, m7, c7, hsl7⟩ : Slc b7 := htv.ext.slc
    subst hsl7
    obtain ⟨r8, m8, c8, hsl8⟩ : Slc b8 := htv.map.slc
    subst hsl8
    obtain ⟨r9, m9, c9, hsl9⟩ : Slc b9 := htv.dec.slc
    subst hsl9
    obtain ⟨r10, m10, c10, hsl10⟩ : Slc b10 := htv.exc.slc
    subst hsl10
    obtain ⟨r11, m11, c11, hsl11⟩ : Slc b11 := htv.pro.slc
    subst hsl11
    have HEE := Lib.hid he
    obtain ⟨⟨k0, k1, k2, k3, k4, k5⟩, ⟨k6, k7, k8, k9, k10, k11⟩⟩ := he.box.load
    simp only at k0 k1 k2 k3 k4 k5 k6 k7 k8 k9 k10 k11
    obtain ⟨s0, t0⟩ := he.res 0 (by omega)
    obtain ⟨s1, t1⟩ := he.res 1 (by omega)
    obtain ⟨s2, t2⟩ := he.res 2 (by omega)
    obtain ⟨s3, t3⟩ := he.res 3 (by omega)
    obtain ⟨s4, t4⟩ := he.res 4 (by omega)
    obtain ⟨s5, t5⟩ := he.res 5 (by omega)
    obtain ⟨s6, t6⟩ := he.res 6 (by omega)
    obtain ⟨s7, t7⟩ := he.res 7 (by omega)
    obtain ⟨s8, t8⟩ := he.res 8 (by omega)
    obtain ⟨s9, t9⟩ := he.res 9 (by omega)
    obtain ⟨s10, t10⟩ := he.res 10 (by omega)
    obtain ⟨s11, t11⟩ := he.res 11 (by omega)
    have HRB : Hid (w.heap.size ≤ rb) := by unfold Hid; omega
    clear HE he htv hrb hgg
    go_wp2
    obtain ⟨hbF, hkF⟩ := store12 wx rb (.slice r0 m0 c0) (.slice r1 m1 c1) (.slice r2 m2 c2) (.slice r3 m3 c3) (.slice r4 m4 c4) (.slice r5 m5 c5) (.slice r6 m6 c6) (.slice r7 m7 c7) (.slice r8 m8 c8) (.slice r9 m9 c9) (.slice r10 m10 c10) (.slice r11 m11 c11) HEE.out.res
    generalize (World.setCell (World.setCell (World.setCell (World.setCell (World.setCell (World.setCell (World.setCell (World.setCell (World.setCell (World.setCell (World.setCell (World.setCell (wx) ⟨rb, 0, none⟩ (.slice r0 m0 c0)) ⟨rb, 1, none⟩ (.slice r1 m1 c1)) ⟨rb, 2, none⟩ (.slice r2 m2 c2)) ⟨rb, 3, none⟩ (.slice r3 m3 c3)) ⟨rb, 4, none⟩ (.slice r4 m4 c4)) ⟨rb, 5, none⟩ (.slice r5 m5 c5)) ⟨rb, 6, none⟩ (.slice r6 m6 c6)) ⟨rb, 7, none⟩ (.slice r7 m7 c7)) ⟨rb, 8, none⟩ (.slice r8 m8 c8)) ⟨rb, 9, none⟩ (.slice r9 m9 c9)) ⟨rb, 10, none⟩ (.slice r10 m10 c10)) ⟨rb, 11, none⟩ (.slice r11 m11 c11)) = WF at hbF hkF ⊢
    obtain ⟨⟨Q0, Q1, Q2, Q3, Q4, Q5⟩, ⟨Q6, Q7, Q8, Q9, Q10, Q11⟩⟩ := hbF.load
    simp only at Q0 Q1 Q2 Q3 Q4 Q5 Q6 Q7 Q8 Q9 Q10 Q11
    refine bodyPost_ret (v := .agg #[.slice r0 m0 c0, .slice r1 m1 c1, .slice r2 m2 c2, .slice r3 m3 c3, .slice r4 m4 c4, .slice r5 m5 c5, .slice r6 m6 c6, .slice r7 m7 c7, .slice r8 m8 c8, .slice r9 m9 c9, .slice r10 m10 c10, .slice r11 m11 c11]) (by simp [results, Tryz.results10, go_sem, Q0, Q1, Q2, Q3, Q4, Q5, Q6, Q7, Q8, Q9, Q10, Q11]) rfl ?_
    exact ⟨⟨.slice r0 m0 c0, .slice r1 m1 c1, .slice r2 m2 c2, .slice r3 m3 c3, .slice r4 m4 c4, .slice r5 m5 c5, .slice r6 m6 c6, .slice r7 m7 c7, .slice r8 m8 c8, .slice r9 m9 c9, .slice r10 m10 c10, .slice r11 m11 c11⟩, T', rfl, HEE.out.tab WF hkF, HEE.out.few, HEE.out.cap, HEE.out.bel.trans (hkF.below HEE.out.bel.size (fun b _ e => by have := HRB.out; omega))⟩

end Go.Proofs.YtnnhcgflmhjakaaGreatDoor
