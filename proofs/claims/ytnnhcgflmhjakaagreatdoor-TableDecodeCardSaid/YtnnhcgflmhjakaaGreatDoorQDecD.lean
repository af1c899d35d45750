/-
  The reader of table: the sum and the end; decodeItems; Decode.
-/
import Derived.Test.YtnnhcgflmhjakaaGreatDoorQDecS
import Derived.Test.YtnnhcgflmhjakaaGreatDoorPkM
import Derived.Test.YtnnhcgflmhjakaaGreatDoorPkE
set_option linter.unusedSimpArgs false
set_option linter.unusedVariables false
namespace Go.Proofs.YtnnhcgflmhjakaaGreatDoor
open Go Go.RowKit
set_option linter.unusedVariables false

theorem sum_q (s : ByteArray) (X : Int) (w : World) (hs : s.size ≤ maxLen) (hX : Hid (sumS s = X)) :
    Calls Tryz.prog 138 #[.string s] w fun e w' => e = .returned (.int .i64 X) ∧ w' = w :=
  (sum_any s X w hs hX).mono fun _ _ h => ⟨h.1, h.2.symm⟩

def PostE (g : Nat) (s : ByteArray) (er : Int) (w : World) (e : Ending) (w' : World) : Prop :=
  e = .returned (.tuple #[]) ∧ (∃ j, Rd w' g s j er) ∧ w.grownBy w' (some g)

set_option maxRecDepth 100000 in
set_option maxHeartbeats 4000000 in
theorem sumEnd_t (g : Nat) (s : ByteArray) (k : Nat) (er er' : Int) (w : World) (hs : s.size ≤ 40000) (hk : k ≤ s.size) (hr : Rd w g s k er) (hE : Hid (endS s k er = er')) :
    Calls Tryz.prog 85 #[.pointer (some ⟨g, 0, none⟩)] w (PostE g s er' w) := by
  have HR := Lib.hid hr
  obtain ⟨r0, r1, r2, r3, r4, r5⟩ := hr
  obtain ⟨v, j, e2, hn⟩ : ∃ v j e2, Hid (rdI s k er = (v, j, e2)) := ⟨_, _, _, rfl⟩
  obtain ⟨Y, hY⟩ : ∃ Y, Hid (sumS (s.extract 0 k) = Y) := ⟨_, rfl⟩
  have hE' := hE.out
  rw [endS, hn.out] at hE'
  simp only [Int.toNat_natCast] at hE'
  rw [hY.out] at hE'
  have HZ : Hid ((s.extract 0 k).size ≤ maxLen) := by unfold Hid maxLen; rw [ByteArray.size_extract]; omega
  go_enter Tryz.func85, Tryz.ntmps85
  go_wp2
  go_quiet ((go_at_call 138; exact Calls.quiet_of_same (sum_q _ Y _ HZ.out hY)))
  go_wp2_with fail
  refine (number_t g s k er v j e2 _ (by unfold maxLen; omega) (HR.out.drewN _) hn).mono ?_
  rintro e w1 ⟨rfl, hr1, hg1⟩
  have HR1 := Lib.hid hr1
  have HG1 := Lib.hid (pk_grownBy_trans (rd_drewN w _ _) hg1)
  clear hg1 r0 r1 r2 r3 r4 r5
  obtain ⟨r0, r1, r2, r3, r4, r5⟩ := hr1
  by_cases h2 : e2 = 0
  · subst h2
    have hd : ((0 : Int) != 0) = false := rfl
    rw [if_neg (by simp)] at hE'
    by_cases h3 : v = Y
    · subst h3
      have hd3 : (v != v) = false := by simp
      rw [if_neg (by simp)] at hE'
      by_cases h4 : j = s.size
      · subst h4
        rw [if_neg (by simp)] at hE'
        subst hE'
        have hd4 : ((s.size : Int) != s.size) = false := by simp
        go_wp2
        go_quiet (fail)
        go_wp2
        go_end0
        exact ⟨rfl, ⟨_, HR1.out.drewN _⟩, pk_grownBy_trans HG1.out (rd_drewN _ _ _)⟩
      · have hd4 : (j != (s.size : Int)) = true := by simp [h4]
        rw [if_pos h4] at hE'
        subst hE'
        go_wp2
        go_quiet (fail)
        go_wp2
        go_end0
        exact ⟨rfl, ⟨_, (HR1.out.drewN _).setErr 4⟩, pk_grownBy_trans (pk_grownBy_trans HG1.out (rd_drewN _ _ _)) (sp_grownBy_store _ g 2 _)⟩
    · have hd3 : (v != Y) = true := by simp [h3]
      rw [if_pos h3] at hE'
      subst hE'
      go_wp2
      go_end0
      exact ⟨rfl, ⟨_, HR1.out.setErr 6⟩, pk_grownBy_trans HG1.out (sp_grownBy_store _ g 2 _)⟩
  · have hd : (e2 != 0) = true := by simp [h2]
    rw [if_pos h2] at hE'
    subst hE'
    go_wp2
    go_end0
    exact ⟨rfl, ⟨_, HR1.out⟩, HG1.out⟩

theorem sig_eq (X : ByteArray) : (X.toList == [78, 68, 84, 49]) = decide (X = sigB) := by
  rw [ByteArray.toList_eq, Bool.eq_iff_iff, beq_iff_eq, decide_eq_true_eq]
  constructor
  · intro h
    apply ByteArray.ext
    exact Array.ext' h
  · rintro rfl; rfl

set_option maxRecDepth 100000 in
set_option maxHeartbeats 2000000 in
theorem lite_q (s : ByteArray) (B : Bool) (w : World) (hs : s.size ≤ 40000) (h4 : 4 ≤ s.size) (hB : Hid (decide (s.extract 0 4 = sigB) = B)) :
    Calls Tryz.prog 134 #[.string s, .string ⟨#[78, 68, 84, 49]⟩] w fun e w' => e = .returned (.bool B) ∧ w' = w := by
  go_enter Tryz.func134, Tryz.ntmps134
  go_wp2
  all_goals first
    | (exfalso; omega)
    | (go_ret
       refine ⟨?_, rfl⟩
       rw [← hB.out, ← sig_eq]; rfl)

set_option maxRecDepth 100000 in
set_option maxHeartbeats 2000000 in
theorem prefix_q (s : ByteArray) (B : Bool) (w : World) (hs : s.size ≤ 40000) (h4 : 4 ≤ s.size) (hB : Hid (decide (s.extract 0 4 = sigB) = B)) :
    Calls Tryz.prog 83 #[.string s, .string ⟨#[78, 68, 84, 49]⟩] w fun e w' => e = .returned (.bool B) ∧ w' = w := by
  go_enter Tryz.func83, Tryz.ntmps83
  go_wp2_with fail
  refine (lite_q s B _ hs h4 hB).mono ?_
  rintro e w1 ⟨rfl, rfl⟩
  go_wp2
  go_ret
  exact ⟨rfl, rfl⟩

def PostD (T : Tb) (er : Int) (w : World) (e : Ending) (w' : World) : Prop :=
  ∃ x : TV, e = .returned (.tuple #[x.agg, .int .i64 er]) ∧ (∀ w'', Keeps w' w'' (fun k => k < w.heap.size) → TabV w'' x T) ∧ Below w.heap.size w w'

theorem BoxT.keeps {w w' : World} {g : Nat} {x : TV} {R : Nat → Prop} (h : BoxT w g x) (hk : Keeps w w' R) (hr : ¬ R g) : BoxT w' g x := by
  obtain ⟨⟨k0, k1, k2, k3, k4, k5⟩, ⟨k6, k7, k8, k9, k10, k11⟩⟩ := h
  exact ⟨⟨hk.cell k0 hr, hk.cell k1 hr, hk.cell k2 hr, hk.cell k3 hr, hk.cell k4 hr, hk.cell k5 hr⟩, ⟨hk.cell k6 hr, hk.cell k7 hr, hk.cell k8 hr, hk.cell k9 hr, hk.cell k10 hr, hk.cell k11 hr⟩⟩

theorem new12 (w : World) (t : TypeId) : BoxF (w.alloc (.cells #[.slice none 0 0, .slice none 0 0, .slice none 0 0, .slice none 0 0, .slice none 0 0, .slice none 0 0, .slice none 0 0, .slice none 0 0, .slice none 0 0, .slice none 0 0, .slice none 0 0, .slice none 0 0] t)) w.heap.size (fun _ => .slice none 0 0) := by
  intro j hj
  have : j = 0 ∨ j = 1 ∨ j = 2 ∨ j = 3 ∨ j = 4 ∨ j = 5 ∨ j = 6 ∨ j = 7 ∨ j = 8 ∨ j = 9 ∨ j = 10 ∨ j = 11 := by omega
  rcases this with rfl | rfl | rfl | rfl | rfl | rfl | rfl | rfl | rfl | rfl | rfl | rfl <;> exact ⟨by simp [World.cell?_alloc_new], by simp⟩

set_option maxRecDepth 100000 in
set_option maxHeartbeats 8000000 in
theorem items_t (s : ByteArray) (T : Tb) (er : Int) (w : World) (hs : s.size ≤ maxLen) (hE : Hid (itemsT s = (T, er))) :
    Calls Tryz.prog 42 #[.string s] w (PostD T er w) := by
  have hE' := hE.out
  rw [itemsT] at hE'
  by_cases h1 : 32768 < s.size
  · rw [if_pos h1] at hE'
    injection hE' with f1 f2
    subst f1; subst f2
    unfold maxLen at hs
    go_enter Tryz.func42, Tryz.ntmps42
    go_wp2
    refine bodyPost_ret (v := .tuple #[.agg #[.slice none 0 0, .slice none 0 0, .slice none 0 0, .slice none 0 0, .slice none 0 0, .slice none 0 0, .slice none 0 0, .slice none 0 0, .slice none 0 0, .slice none 0 0, .slice none 0 0, .slice none 0 0], .int .i64 7]) (by simp [results, Tryz.results42, go_sem, World.cell?_alloc_new]) rfl ?_
    exact ⟨noX, rfl, fun _ _ => noV _, (Below.refl _ _).alloc (Nat.le_refl _) _⟩
  · rw [if_neg h1] at hE'
    clear hs
    by_cases h2 : s.size < 4
    · rw [if_pos h2] at hE'
      injection hE' with f1 f2
      subst f1; subst f2
      go_enter Tryz.func42, Tryz.ntmps42
      go_wp2
      refine bodyPost_ret (v := .tuple #[.agg #[.slice none 0 0, .slice none 0 0, .slice none 0 0, .slice none 0 0, .slice none 0 0, .slice none 0 0, .slice none 0 0, .slice none 0 0, .slice none 0 0, .slice none 0 0, .slice none 0 0, .slice none 0 0], .int .i64 5]) (by simp [results, Tryz.results42, go_sem, World.cell?_alloc_new]) rfl ?_
      exact ⟨noX, rfl, fun _ _ => noV _, (Below.refl _ _).alloc (Nat.le_refl _) _⟩
    · rw [if_neg h2] at hE'
      by_cases h3 : s.extract 0 4 = sigB
      · rw [if_neg (by simp [h3])] at hE'
        injection hE' with f1 f2
        have hB : Hid (decide (s.extract 0 4 = sigB) = true) := decide_eq_true h3
        obtain ⟨T', i', e', hT⟩ : ∃ T i e, Hid (rdT s 4 0 = (T, i, e)) := ⟨_, _, _, rfl⟩
        have hbd := rdT_bd (s := s) (i := 4) 0 ⟨by omega, by omega⟩
        rw [hT.out] at f1 f2 hbd
        simp only at f1 f2
        subst f1
        obtain ⟨k, hk⟩ : ∃ k : Nat, i' = k := ⟨i'.toNat, by have := hbd.1; simp only at this; omega⟩
        subst hk
        have hks : k ≤ s.size := by have := hbd.2; simp only at this; omega
        have HEN : Hid (endS s k e' = er) := f2
        clear hbd f2 h3
        go_enter Tryz.func42, Tryz.ntmps42
        go_wp2_with fail
        refine (prefix_q s true _ (by omega) (by omega) hB).mono ?_
        rintro e w0 ⟨rfl, rfl⟩
        go_wp2_with fail
        have HRB := Lib.hid (new12 w 29)
        have HBW : Hid (Below w.heap.size w (w.alloc (.cells #[.slice none 0 0, .slice none 0 0, .slice none 0 0, .slice none 0 0, .slice none 0 0, .slice none 0 0, .slice none 0 0, .slice none 0 0, .slice none 0 0, .slice none 0 0, .slice none 0 0, .slice none 0 0] 29))) := (Below.refl _ _).alloc (Nat.le_refl _) _
        have HRD : Hid (Rd ((w.alloc (.cells #[.slice none 0 0, .slice none 0 0, .slice none 0 0, .slice none 0 0, .slice none 0 0, .slice none 0 0, .slice none 0 0, .slice none 0 0, .slice none 0 0, .slice none 0 0, .slice none 0 0, .slice none 0 0] 29)).alloc (.cells #[.string s, .int .i64 4, .int .i64 0] 106)) (w.heap.size + 1) s 4 0) := by
          have := Rd.new (w.alloc (.cells #[.slice none 0 0, .slice none 0 0, .slice none 0 0, .slice none 0 0, .slice none 0 0, .slice none 0 0, .slice none 0 0, .slice none 0 0, .slice none 0 0, .slice none 0 0, .slice none 0 0, .slice none 0 0] 29)) s 4 0 106
          unfold Hid
          simpa using this
        have HRB2 := Lib.hid (HRB.out.below ((Below.refl _ _).alloc (Nat.le_refl _) (.cells #[.string s, .int .i64 4, .int .i64 0] 106)))
        have HBW2 := Lib.hid (HBW.out.alloc HBW.out.size (.cells #[.string s, .int .i64 4, .int .i64 0] 106))
        clear HRB HBW
        refine (tables_t (w.heap.size + 1) s 4 0 T' k e' _ (by unfold maxLen; omega) HRD.out hT).mono ?_
        rintro e w3 ⟨⟨a0, a1, a2, a3, a4, a5, a6, a7, a8, a9, a10, a11⟩, rfl, htv, hrd3, hk3⟩
        have htv0 := htv _ (Keeps.refl _ _)
        obtain ⟨p0, n0, q0, hsl0⟩ : Slc a0 := htv0.cat.slc
        subst hsl0
        obtain ⟨p1, n1, q1, hsl1⟩ : Slc a1 := htv0.cls.slc
        subst hsl1
        obtain ⟨p2, n2, q2, hsl2⟩ : Slc a2 := htv0.joi.slc
        subst hsl2
        obtain ⟨p3, n3, q3, hsl3⟩ : Slc a3 := htv0.bid.slc
        subst hsl3
        obtain ⟨p4, n4, q4, hsl4⟩ : Slc a4 := htv0.scr.slc
        subst hsl4
        obtain ⟨p5, n5, q5, hsl5⟩ : Slc a5 := htv0.sta.slc
        subst hsl5
        obtain ⟨p6, n6, q6, hsl6⟩ : Slc a6 := htv0.ign.slc
        subst hsl6
        obtain ⟨p7, n7, q7, hsl7⟩ : Slc a7 := htv0.ext.slc
        subst hsl7
        obtain ⟨p8, n8, q8, hsl8⟩ : Slc a8 := htv0.map.slc
        subst hsl8
        obtain ⟨p9, n9, q9, hsl9⟩ : Slc a9 := htv0.dec.slc
        subst hsl9
        obtain ⟨p10, n10, q10, hsl10⟩ : Slc a10 := htv0.exc.slc
        subst hsl10
        obtain ⟨p11, n11, q11, hsl11⟩ : Slc a11 := htv0.pro.slc
        subst hsl11
        have HRB3 := Lib.hid (HRB2.out.keeps hk3 (by omega))
        have HB3 := Lib.hid (HBW2.out.trans (hk3.below HBW2.out.size (fun k _ e => by omega)))
        have hk4 := Keeps.alloc w3 (.cells (tabCells ⟨.slice p0 n0 q0, .slice p1 n1 q1, .slice p2 n2 q2, .slice p3 n3 q3, .slice p4 n4 q4, .slice p5 n5 q5, .slice p6 n6 q6, .slice p7 n7 q7, .slice p8 n8 q8, .slice p9 n9 q9, .slice p10 n10 q10, .slice p11 n11 q11⟩) 29)
        have HRD4 := Lib.hid (hrd3.keeps hk4 (fun e => e))
        have HBX4 := Lib.hid (BoxT.new w3 ⟨.slice p0 n0 q0, .slice p1 n1 q1, .slice p2 n2 q2, .slice p3 n3 q3, .slice p4 n4 q4, .slice p5 n5 q5, .slice p6 n6 q6, .slice p7 n7 q7, .slice p8 n8 q8, .slice p9 n9 q9, .slice p10 n10 q10, .slice p11 n11 q11⟩ 29)
        have HRB4 := Lib.hid (HRB3.out.keeps hk4 (fun e => e))
        have HB4 := Lib.hid (HB3.out.alloc HB3.out.size (.cells (tabCells ⟨.slice p0 n0 q0, .slice p1 n1 q1, .slice p2 n2 q2, .slice p3 n3 q3, .slice p4 n4 q4, .slice p5 n5 q5, .slice p6 n6 q6, .slice p7 n7 q7, .slice p8 n8 q8, .slice p9 n9 q9, .slice p10 n10 q10, .slice p11 n11 q11⟩) 29))
        have HTV := Lib.hid htv
        have HK4 := Lib.hid hk4
        have HLT := Lib.hid hrd3.2.2.2.2.2
        clear htv hrd3 hk3 hk4 htv0 HRB3 HB3 HRD HRB2 HBW2
        simp only [tabCells] at HRD4 HBX4 HRB4 HB4 HK4
        go_wp2_with fail
        refine (sumEnd_t (w.heap.size + 1) s k e' er _ (by omega) hks HRD4.out HEN).mono ?_
        rintro e w5 ⟨rfl, ⟨jj, hrd5⟩, hg5⟩
        have hk5 := (Keeps.of_grown hg5).weak (Q := fun k => k = w.heap.size + 1) (fun k _ e => by injection e with e; exact e.symm)
        have HK5 := Lib.hid (HK4.out.trans hk5 (S := fun k => k = w.heap.size + 1) (fun _ _ e => e.elim) (fun _ _ e => e))
        have HBX5 := Lib.hid (HBX4.out.keeps hk5 (by have := HLT.out; omega))
        have HRB5 := Lib.hid (HRB4.out.keeps hk5 (by omega))
        have HB5 := Lib.hid (HB4.out.trans (hk5.below HB4.out.size (fun k _ e => by omega)))
        have r2 := hrd5.2.2.1
        clear hrd5 hg5 hk5 HRD4 HBX4 HRB4 HB4 HK4
        generalize hG : w3.heap.size = G at HBX5 HLT ⊢
        obtain ⟨⟨k0, k1, k2, k3, k4, k5⟩, ⟨k6, k7, k8, k9, k10, k11⟩⟩ := HBX5.out.load
        simp only at k0 k1 k2 k3 k4 k5 k6 k7 k8 k9 k10 k11
        obtain ⟨s0, t0⟩ := HRB5.out 0 (by omega)
        obtain ⟨s1, t1⟩ := HRB5.out 1 (by omega)
        obtain ⟨s2, t2⟩ := HRB5.out 2 (by omega)
        obtain ⟨s3, t3⟩ := HRB5.out 3 (by omega)
        obtain ⟨s4, t4⟩ := HRB5.out 4 (by omega)
        obtain ⟨s5, t5⟩ := HRB5.out 5 (by omega)
        obtain ⟨s6, t6⟩ := HRB5.out 6 (by omega)
        obtain ⟨s7, t7⟩ := HRB5.out 7 (by omega)
        obtain ⟨s8, t8⟩ := HRB5.out 8 (by omega)
        obtain ⟨s9, t9⟩ := HRB5.out 9 (by omega)
        obtain ⟨s10, t10⟩ := HRB5.out 10 (by omega)
        obtain ⟨s11, t11⟩ := HRB5.out 11 (by omega)
        simp only [TV.agg]
        go_wp2
        go_region
        obtain ⟨hbF, hkF⟩ := store12 w5 w.heap.size (.slice p0 n0 q0) (.slice p1 n1 q1) (.slice p2 n2 q2) (.slice p3 n3 q3) (.slice p4 n4 q4) (.slice p5 n5 q5) (.slice p6 n6 q6) (.slice p7 n7 q7) (.slice p8 n8 q8) (.slice p9 n9 q9) (.slice p10 n10 q10) (.slice p11 n11 q11) HRB5.out
        have HBX := HBX5
        clear HBX5
        generalize (World.setCell (World.setCell (World.setCell (World.setCell (World.setCell (World.setCell (World.setCell (World.setCell (World.setCell (World.setCell (World.setCell (World.setCell w5 ⟨w.heap.size, 0, none⟩ (.slice p0 n0 q0)) ⟨w.heap.size, 1, none⟩ (.slice p1 n1 q1)) ⟨w.heap.size, 2, none⟩ (.slice p2 n2 q2)) ⟨w.heap.size, 3, none⟩ (.slice p3 n3 q3)) ⟨w.heap.size, 4, none⟩ (.slice p4 n4 q4)) ⟨w.heap.size, 5, none⟩ (.slice p5 n5 q5)) ⟨w.heap.size, 6, none⟩ (.slice p6 n6 q6)) ⟨w.heap.size, 7, none⟩ (.slice p7 n7 q7)) ⟨w.heap.size, 8, none⟩ (.slice p8 n8 q8)) ⟨w.heap.size, 9, none⟩ (.slice p9 n9 q9)) ⟨w.heap.size, 10, none⟩ (.slice p10 n10 q10)) ⟨w.heap.size, 11, none⟩ (.slice p11 n11 q11)) = WF at hbF hkF ⊢
        have hkD := (HK5.out.trans hkF (S := fun k => k < w.heap.size + 2) (fun _ _ e => by omega) (fun _ _ e => by omega)).draw 1
        have htF := fun w'' (hk : Keeps (WF.drewN 1) w'' (fun k => k < w.heap.size)) => HTV.out w'' ((hkD.trans hk (S := fun k => k < w.heap.size + 2) (fun _ _ e => e) (fun _ _ e => by omega)).weak (fun k _ e => by simp; omega))
        have hbD := hbF.below (drew_one WF)
        have hBF := (HB5.out.trans (hkF.below HB5.out.size (fun k _ e => by omega))).drew
        obtain ⟨⟨Q0, Q1, Q2, Q3, Q4, Q5⟩, ⟨Q6, Q7, Q8, Q9, Q10, Q11⟩⟩ := hbD.load
        simp only at Q0 Q1 Q2 Q3 Q4 Q5 Q6 Q7 Q8 Q9 Q10 Q11
        clear k0 k1 k2 k3 k4 k5 k6 k7 k8 k9 k10 k11 s0 s1 s2 s3 s4 s5 s6 s7 s8 s9 s10 s11 t0 t1 t2 t3 t4 t5 t6 t7 t8 t9 t10 t11 r2
        go_wp2
        refine bodyPost_ret (v := .tuple #[.agg #[.slice p0 n0 q0, .slice p1 n1 q1, .slice p2 n2 q2, .slice p3 n3 q3, .slice p4 n4 q4, .slice p5 n5 q5, .slice p6 n6 q6, .slice p7 n7 q7, .slice p8 n8 q8, .slice p9 n9 q9, .slice p10 n10 q10, .slice p11 n11 q11], .int .i64 er]) (by simp [results, Tryz.results42, go_sem, Q0, Q1, Q2, Q3, Q4, Q5, Q6, Q7, Q8, Q9, Q10, Q11]) rfl ?_
        exact ⟨⟨.slice p0 n0 q0, .slice p1 n1 q1, .slice p2 n2 q2, .slice p3 n3 q3, .slice p4 n4 q4, .slice p5 n5 q5, .slice p6 n6 q6, .slice p7 n7 q7, .slice p8 n8 q8, .slice p9 n9 q9, .slice p10 n10 q10, .slice p11 n11 q11⟩, rfl, htF, hBF⟩
      · rw [if_pos h3] at hE'
        injection hE' with f1 f2
        subst f1; subst f2
        have hB : Hid (decide (s.extract 0 4 = sigB) = false) := decide_eq_false h3
        go_enter Tryz.func42, Tryz.ntmps42
        go_wp2_with fail
        refine (prefix_q s false _ (by omega) (by omega) hB).mono ?_
        rintro e w0 ⟨rfl, rfl⟩
        go_wp2
        refine bodyPost_ret (v := .tuple #[.agg #[.slice none 0 0, .slice none 0 0, .slice none 0 0, .slice none 0 0, .slice none 0 0, .slice none 0 0, .slice none 0 0, .slice none 0 0, .slice none 0 0, .slice none 0 0, .slice none 0 0, .slice none 0 0], .int .i64 4]) (by simp [results, Tryz.results42, go_sem, World.cell?_alloc_new]) rfl ?_
        exact ⟨noX, rfl, fun _ _ => noV _, (Below.refl _ _).alloc (Nat.le_refl _) _⟩

end Go.Proofs.YtnnhcgflmhjakaaGreatDoor
