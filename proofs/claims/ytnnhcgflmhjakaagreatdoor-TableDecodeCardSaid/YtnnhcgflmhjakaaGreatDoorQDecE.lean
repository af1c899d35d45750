/-
  table.Decode (genDE.py).
-/
import Derived.Test.YtnnhcgflmhjakaaGreatDoorQDecD
set_option linter.unusedSimpArgs false
set_option linter.unusedVariables false
namespace Go.Proofs.YtnnhcgflmhjakaaGreatDoor
open Go Go.RowKit
set_option linter.unusedVariables false

set_option maxRecDepth 100000 in
set_option maxHeartbeats 8000000 in
theorem decode_t (s : ByteArray) (T : Tb) (er : Int) (w : World) (hs : s.size ≤ maxLen) (hr : Rsv w) (hE : Hid (decT s = (T, er))) :
    Calls Tryz.prog 15 #[.string s] w (PostD T er w) := by
  have HR := Lib.hid hr
  obtain ⟨T1, e1, h1⟩ : ∃ T e, Hid (itemsT s = (T, e)) := ⟨_, _, rfl⟩
  have hE' := hE.out
  rw [decT, h1.out] at hE'
  simp only at hE'
  go_enter Tryz.func15, Tryz.ntmps15
  go_wp2_with fail
  have HRB0 := Lib.hid (new12 w 29)
  have HBW0 : Hid (Below w.heap.size w (w.alloc (.cells #[.slice none 0 0, .slice none 0 0, .slice none 0 0, .slice none 0 0, .slice none 0 0, .slice none 0 0, .slice none 0 0, .slice none 0 0, .slice none 0 0, .slice none 0 0, .slice none 0 0, .slice none 0 0] 29))) := (Below.refl _ _).alloc (Nat.le_refl _) _
  refine (items_t s T1 e1 _ hs h1).mono ?_
  rintro e w1 ⟨⟨a0, a1, a2, a3, a4, a5, a6, a7, a8, a9, a10, a11⟩, rfl, htv, hb1⟩
  have htv0 := htv w1 (Keeps.refl _ _)
  obtain ⟨p0, n0, q0, hsl0⟩ : Slc a0 := htv0.cat.slc
  subst hsl0
  obtain ⟨p1, n1, q1, hsl1⟩ : Slc a1 := htv0.cls.slc
  subst hsl1
  obtain ⟨p2, n2, q2, hsl2⟩ : Slc a2 := htv0.joi.slc
  subst hsl2
  obtain ⟨p3, n3, q3, hsl3⟩ : Slc a3 := htv0.bid.slc
  subst hsl3
  obtain ⟨p4, n4, q4, hsl4⟩ : Slc a4 := htv0.scr.slc
  subst hsl4
  obtain ⟨p5, n5, q5, hsl5⟩ : Slc a5 := htv0.sta.slc
  subst hsl5
  obtain ⟨p6, n6, q6, hsl6⟩ : Slc a6 := htv0.ign.slc
  subst hsl6
  obtain ⟨p7, n7, q7, hsl7⟩ : Slc a7 := htv0.ext.slc
  subst hsl7
  obtain ⟨p8, n8, q8, hsl8⟩ : Slc a8 := htv0.map.slc
  subst hsl8
  obtain ⟨p9, n9, q9, hsl9⟩ : Slc a9 := htv0.dec.slc
  subst hsl9
  obtain ⟨p10, n10, q10, hsl10⟩ : Slc a10 := htv0.exc.slc
  subst hsl10
  obtain ⟨p11, n11, q11, hsl11⟩ : Slc a11 := htv0.pro.slc
  subst hsl11
  have hba : Below w1.heap.size w1 (w1.alloc (.cells (tabCells ⟨.slice p0 n0 q0, .slice p1 n1 q1, .slice p2 n2 q2, .slice p3 n3 q3, .slice p4 n4 q4, .slice p5 n5 q5, .slice p6 n6 q6, .slice p7 n7 q7, .slice p8 n8 q8, .slice p9 n9 q9, .slice p10 n10 q10, .slice p11 n11 q11⟩) 29)) := (Below.refl _ _).alloc (Nat.le_refl _) _
  have HTV := Lib.hid htv
  have HK : Hid (Keeps w1 (w1.alloc (.cells (tabCells ⟨.slice p0 n0 q0, .slice p1 n1 q1, .slice p2 n2 q2, .slice p3 n3 q3, .slice p4 n4 q4, .slice p5 n5 q5, .slice p6 n6 q6, .slice p7 n7 q7, .slice p8 n8 q8, .slice p9 n9 q9, .slice p10 n10 q10, .slice p11 n11 q11⟩) 29)) (fun k => k < w.heap.size + 1)) := (Keeps.alloc _ _).weak (fun _ _ e => e.elim)
  have HTC := Lib.hid ((htv0).below hba)
  have HBX := Lib.hid (BoxT.new w1 ⟨.slice p0 n0 q0, .slice p1 n1 q1, .slice p2 n2 q2, .slice p3 n3 q3, .slice p4 n4 q4, .slice p5 n5 q5, .slice p6 n6 q6, .slice p7 n7 q7, .slice p8 n8 q8, .slice p9 n9 q9, .slice p10 n10 q10, .slice p11 n11 q11⟩ 29)
  have HRB := Lib.hid ((HRB0.out.below hb1).below hba)
  have HBW := Lib.hid ((HBW0.out.trans (hb1.mono HBW0.out.size)).trans (hba.mono (Nat.le_trans HBW0.out.size hb1.size)))
  clear htv htv0 hb1 hba HRB0 HBW0
  simp only [tabCells] at HTC HK HBX HRB HBW
  by_cases h0 : e1 = 0
  · subst h0
    rw [if_neg (by simp)] at hE'
    have hd : ((0 : Int) == 0) = true := rfl
    obtain ⟨V, hV⟩ : ∃ V, Hid (checkT T1 = V) := ⟨_, rfl⟩
    rw [hV.out] at hE'
    simp only [TV.agg]
    go_wp2_with fail
    refine (check_tab_at ⟨.slice p0 n0 q0, .slice p1 n1 q1, .slice p2 n2 q2, .slice p3 n3 q3, .slice p4 n4 q4, .slice p5 n5 q5, .slice p6 n6 q6, .slice p7 n7 q7, .slice p8 n8 q8, .slice p9 n9 q9, .slice p10 n10 q10, .slice p11 n11 q11⟩ T1 V _ HTC.out (HR.out.below HBW.out) hV).mono ?_
    rintro e w3 ⟨rfl, hb3⟩
    replace HRB := Lib.hid (HRB.out.below hb3)
    replace HBX := Lib.hid (HBX.out.below hb3)
    replace HK := Lib.hid (HK.out.trans (Keeps.of_below hb3) (S := fun k => k < w.heap.size + 1) (fun _ _ e => e) (fun _ hlt e => by simp at e; omega))
    replace HBW := Lib.hid (HBW.out.trans (hb3.mono HBW.out.size))
    clear hb3
    generalize hG : w1.heap.size = G at HBX ⊢
    obtain ⟨⟨k0, k1, k2, k3, k4, k5⟩, ⟨k6, k7, k8, k9, k10, k11⟩⟩ := HBX.out.load
    simp only at k0 k1 k2 k3 k4 k5 k6 k7 k8 k9 k10 k11
    by_cases hv0 : V = 0
    · subst hv0
      rw [if_neg (by simp)] at hE'
      injection hE' with f1 f2
      subst f1; subst f2
      have hd2 : ((0 : Int) != 0) = false := rfl
      obtain ⟨s0, t0⟩ := HRB.out 0 (by omega)
      obtain ⟨s1, t1⟩ := HRB.out 1 (by omega)
      obtain ⟨s2, t2⟩ := HRB.out 2 (by omega)
      obtain ⟨s3, t3⟩ := HRB.out 3 (by omega)
      obtain ⟨s4, t4⟩ := HRB.out 4 (by omega)
      obtain ⟨s5, t5⟩ := HRB.out 5 (by omega)
      obtain ⟨s6, t6⟩ := HRB.out 6 (by omega)
      obtain ⟨s7, t7⟩ := HRB.out 7 (by omega)
      obtain ⟨s8, t8⟩ := HRB.out 8 (by omega)
      obtain ⟨s9, t9⟩ := HRB.out 9 (by omega)
      obtain ⟨s10, t10⟩ := HRB.out 10 (by omega)
      obtain ⟨s11, t11⟩ := HRB.out 11 (by omega)
      go_wp2
      obtain ⟨hbF, hkF⟩ := store12 w3 w.heap.size (.slice p0 n0 q0) (.slice p1 n1 q1) (.slice p2 n2 q2) (.slice p3 n3 q3) (.slice p4 n4 q4) (.slice p5 n5 q5) (.slice p6 n6 q6) (.slice p7 n7 q7) (.slice p8 n8 q8) (.slice p9 n9 q9) (.slice p10 n10 q10) (.slice p11 n11 q11) HRB.out
      generalize (World.setCell (World.setCell (World.setCell (World.setCell (World.setCell (World.setCell (World.setCell (World.setCell (World.setCell (World.setCell (World.setCell (World.setCell w3 ⟨w.heap.size, 0, none⟩ (.slice p0 n0 q0)) ⟨w.heap.size, 1, none⟩ (.slice p1 n1 q1)) ⟨w.heap.size, 2, none⟩ (.slice p2 n2 q2)) ⟨w.heap.size, 3, none⟩ (.slice p3 n3 q3)) ⟨w.heap.size, 4, none⟩ (.slice p4 n4 q4)) ⟨w.heap.size, 5, none⟩ (.slice p5 n5 q5)) ⟨w.heap.size, 6, none⟩ (.slice p6 n6 q6)) ⟨w.heap.size, 7, none⟩ (.slice p7 n7 q7)) ⟨w.heap.size, 8, none⟩ (.slice p8 n8 q8)) ⟨w.heap.size, 9, none⟩ (.slice p9 n9 q9)) ⟨w.heap.size, 10, none⟩ (.slice p10 n10 q10)) ⟨w.heap.size, 11, none⟩ (.slice p11 n11 q11)) = WF at hbF hkF ⊢
      obtain ⟨⟨Q0, Q1, Q2, Q3, Q4, Q5⟩, ⟨Q6, Q7, Q8, Q9, Q10, Q11⟩⟩ := hbF.load
      simp only at Q0 Q1 Q2 Q3 Q4 Q5 Q6 Q7 Q8 Q9 Q10 Q11
      refine bodyPost_ret (v := .tuple #[.agg #[.slice p0 n0 q0, .slice p1 n1 q1, .slice p2 n2 q2, .slice p3 n3 q3, .slice p4 n4 q4, .slice p5 n5 q5, .slice p6 n6 q6, .slice p7 n7 q7, .slice p8 n8 q8, .slice p9 n9 q9, .slice p10 n10 q10, .slice p11 n11 q11], .int .i64 0]) (by simp [results, Tryz.results15, go_sem, Q0, Q1, Q2, Q3, Q4, Q5, Q6, Q7, Q8, Q9, Q10, Q11]) rfl ?_
      exact ⟨⟨.slice p0 n0 q0, .slice p1 n1 q1, .slice p2 n2 q2, .slice p3 n3 q3, .slice p4 n4 q4, .slice p5 n5 q5, .slice p6 n6 q6, .slice p7 n7 q7, .slice p8 n8 q8, .slice p9 n9 q9, .slice p10 n10 q10, .slice p11 n11 q11⟩, rfl, fun w'' hk => HTV.out w'' ((HK.out.trans (hkF.trans hk (S := fun k => k < w.heap.size + 1) (fun _ _ e => by omega) (fun _ _ e => by omega)) (S := fun k => k < w.heap.size + 1) (fun _ _ e => e) (fun _ _ e => e)).weak (fun k _ e => by simp; omega)), HBW.out.trans (hkF.below HBW.out.size (fun k _ e => by omega))⟩
    · have hd2 : (V != 0) = true := by simp [hv0]
      have hd3 : ((2 : Int) != 0) = true := rfl
      rw [if_pos hv0] at hE'
      injection hE' with f1 f2
      subst f1; subst f2
      obtain ⟨s0, t0⟩ := HRB.out 0 (by omega)
      obtain ⟨s1, t1⟩ := HRB.out 1 (by omega)
      obtain ⟨s2, t2⟩ := HRB.out 2 (by omega)
      obtain ⟨s3, t3⟩ := HRB.out 3 (by omega)
      obtain ⟨s4, t4⟩ := HRB.out 4 (by omega)
      obtain ⟨s5, t5⟩ := HRB.out 5 (by omega)
      obtain ⟨s6, t6⟩ := HRB.out 6 (by omega)
      obtain ⟨s7, t7⟩ := HRB.out 7 (by omega)
      obtain ⟨s8, t8⟩ := HRB.out 8 (by omega)
      obtain ⟨s9, t9⟩ := HRB.out 9 (by omega)
      obtain ⟨s10, t10⟩ := HRB.out 10 (by omega)
      obtain ⟨s11, t11⟩ := HRB.out 11 (by omega)
      go_wp2
      obtain ⟨hbF, hkF⟩ := store12 w3 w.heap.size (.slice none 0 0) (.slice none 0 0) (.slice none 0 0) (.slice none 0 0) (.slice none 0 0) (.slice none 0 0) (.slice none 0 0) (.slice none 0 0) (.slice none 0 0) (.slice none 0 0) (.slice none 0 0) (.slice none 0 0) HRB.out
      generalize (World.setCell (World.setCell (World.setCell (World.setCell (World.setCell (World.setCell (World.setCell (World.setCell (World.setCell (World.setCell (World.setCell (World.setCell w3 ⟨w.heap.size, 0, none⟩ (.slice none 0 0)) ⟨w.heap.size, 1, none⟩ (.slice none 0 0)) ⟨w.heap.size, 2, none⟩ (.slice none 0 0)) ⟨w.heap.size, 3, none⟩ (.slice none 0 0)) ⟨w.heap.size, 4, none⟩ (.slice none 0 0)) ⟨w.heap.size, 5, none⟩ (.slice none 0 0)) ⟨w.heap.size, 6, none⟩ (.slice none 0 0)) ⟨w.heap.size, 7, none⟩ (.slice none 0 0)) ⟨w.heap.size, 8, none⟩ (.slice none 0 0)) ⟨w.heap.size, 9, none⟩ (.slice none 0 0)) ⟨w.heap.size, 10, none⟩ (.slice none 0 0)) ⟨w.heap.size, 11, none⟩ (.slice none 0 0)) = WF at hbF hkF ⊢
      obtain ⟨⟨Q0, Q1, Q2, Q3, Q4, Q5⟩, ⟨Q6, Q7, Q8, Q9, Q10, Q11⟩⟩ := hbF.load
      simp only at Q0 Q1 Q2 Q3 Q4 Q5 Q6 Q7 Q8 Q9 Q10 Q11
      refine bodyPost_ret (v := .tuple #[.agg #[.slice none 0 0, .slice none 0 0, .slice none 0 0, .slice none 0 0, .slice none 0 0, .slice none 0 0, .slice none 0 0, .slice none 0 0, .slice none 0 0, .slice none 0 0, .slice none 0 0, .slice none 0 0], .int .i64 2]) (by simp [results, Tryz.results15, go_sem, Q0, Q1, Q2, Q3, Q4, Q5, Q6, Q7, Q8, Q9, Q10, Q11]) rfl ?_
      exact ⟨⟨.slice none 0 0, .slice none 0 0, .slice none 0 0, .slice none 0 0, .slice none 0 0, .slice none 0 0, .slice none 0 0, .slice none 0 0, .slice none 0 0, .slice none 0 0, .slice none 0 0, .slice none 0 0⟩, rfl, fun _ _ => noV _, HBW.out.trans (hkF.below HBW.out.size (fun k _ e => by omega))⟩
  · have hd : (e1 == 0) = false := by simp [h0]
    have hd2 : (e1 != 0) = true := by simp [h0]
    rw [if_pos h0] at hE'
    injection hE' with f1 f2
    subst f1; subst f2
    simp only [TV.agg]
    clear h0
    generalize hW : w1.alloc (.cells #[.slice p0 n0 q0, .slice p1 n1 q1, .slice p2 n2 q2, .slice p3 n3 q3, .slice p4 n4 q4, .slice p5 n5 q5, .slice p6 n6 q6, .slice p7 n7 q7, .slice p8 n8 q8, .slice p9 n9 q9, .slice p10 n10 q10, .slice p11 n11 q11] 29) = W3 at HTC HBX HRB HBW HK ⊢
    obtain ⟨s0, t0⟩ := HRB.out 0 (by omega)
    obtain ⟨s1, t1⟩ := HRB.out 1 (by omega)
    obtain ⟨s2, t2⟩ := HRB.out 2 (by omega)
    obtain ⟨s3, t3⟩ := HRB.out 3 (by omega)
    obtain ⟨s4, t4⟩ := HRB.out 4 (by omega)
    obtain ⟨s5, t5⟩ := HRB.out 5 (by omega)
    obtain ⟨s6, t6⟩ := HRB.out 6 (by omega)
    obtain ⟨s7, t7⟩ := HRB.out 7 (by omega)
    obtain ⟨s8, t8⟩ := HRB.out 8 (by omega)
    obtain ⟨s9, t9⟩ := HRB.out 9 (by omega)
    obtain ⟨s10, t10⟩ := HRB.out 10 (by omega)
    obtain ⟨s11, t11⟩ := HRB.out 11 (by omega)
    go_wp2
    obtain ⟨hbF, hkF⟩ := store12 W3 w.heap.size (.slice none 0 0) (.slice none 0 0) (.slice none 0 0) (.slice none 0 0) (.slice none 0 0) (.slice none 0 0) (.slice none 0 0) (.slice none 0 0) (.slice none 0 0) (.slice none 0 0) (.slice none 0 0) (.slice none 0 0) HRB.out
    generalize (World.setCell (World.setCell (World.setCell (World.setCell (World.setCell (World.setCell (World.setCell (World.setCell (World.setCell (World.setCell (World.setCell (World.setCell W3 ⟨w.heap.size, 0, none⟩ (.slice none 0 0)) ⟨w.heap.size, 1, none⟩ (.slice none 0 0)) ⟨w.heap.size, 2, none⟩ (.slice none 0 0)) ⟨w.heap.size, 3, none⟩ (.slice none 0 0)) ⟨w.heap.size, 4, none⟩ (.slice none 0 0)) ⟨w.heap.size, 5, none⟩ (.slice none 0 0)) ⟨w.heap.size, 6, none⟩ (.slice none 0 0)) ⟨w.heap.size, 7, none⟩ (.slice none 0 0)) ⟨w.heap.size, 8, none⟩ (.slice none 0 0)) ⟨w.heap.size, 9, none⟩ (.slice none 0 0)) ⟨w.heap.size, 10, none⟩ (.slice none 0 0)) ⟨w.heap.size, 11, none⟩ (.slice none 0 0)) = WF at hbF hkF ⊢
    obtain ⟨⟨Q0, Q1, Q2, Q3, Q4, Q5⟩, ⟨Q6, Q7, Q8, Q9, Q10, Q11⟩⟩ := hbF.load
    simp only at Q0 Q1 Q2 Q3 Q4 Q5 Q6 Q7 Q8 Q9 Q10 Q11
    refine bodyPost_ret (v := .tuple #[.agg #[.slice none 0 0, .slice none 0 0, .slice none 0 0, .slice none 0 0, .slice none 0 0, .slice none 0 0, .slice none 0 0, .slice none 0 0, .slice none 0 0, .slice none 0 0, .slice none 0 0, .slice none 0 0], .int .i64 e1]) (by simp [results, Tryz.results15, go_sem, Q0, Q1, Q2, Q3, Q4, Q5, Q6, Q7, Q8, Q9, Q10, Q11]) rfl ?_
    exact ⟨⟨.slice none 0 0, .slice none 0 0, .slice none 0 0, .slice none 0 0, .slice none 0 0, .slice none 0 0, .slice none 0 0, .slice none 0 0, .slice none 0 0, .slice none 0 0, .slice none 0 0, .slice none 0 0⟩, rfl, fun _ _ => noV _, HBW.out.trans (hkF.below HBW.out.size (fun k _ e => by omega))⟩

end Go.Proofs.YtnnhcgflmhjakaaGreatDoor
