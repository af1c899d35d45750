/-
  The references of table: rule 2.
-/
import Derived.Test.YtopaojjodkoidaaGreatDoorSSmTabRC
set_option linter.unusedSimpArgs false
set_option linter.unusedVariables false
namespace Go.Proofs.YtopaojjodkoidaaGreatDoor
open Go.RowKit
theorem rsp_at {w w0 : World} {p : Option Addr} {n c : Nat} {l : List Sp} (B : Bool) (hln : Hid (l.length = n)) (hn : n ≤ 256) (hI : SpIn w p l) (hB : Hid (ascB 0 l = B)) :
 Calls Tryz.prog 147 #[.slice p n c, .int .i64 0, .int .i64 1114111] w (Gives (.bool B) w) :=
 rcheck_at p n c l 0 1114111 B w hln (by unfold maxLen; omega) hI (by unfold Hid; rw [spOk_valid (by rw [hln.out]; exact hn)]; exact hB.out)
set_option maxRecDepth 100000 in
set_option maxHeartbeats 16000000 in
theorem rplaced_any (x : TV) (T : Tb) (w : World) (hx : TabV w x T) (h1 : r1 T = true) :
 Calls Tryz.prog 123 #[x.agg] w (Gives (.bool (r2 T)) w) := by
 obtain ⟨a0, a1, a2, a3, a4, a5, a6, a7, a8, a9, a10, a11⟩ := x
 obtain ⟨pe, ce, he, hei, hel⟩ := hx.exc
 obtain ⟨ne, hne⟩ : ∃ n, T.exc.length = n := ⟨_, rfl⟩
 rw [hne] at he hel
 simp only at he
 subst he
 have HE := Lib.hid (Env.new hx)
 have HN := Lib.hid hne
 have HEI := Lib.hid hei
 have HR1 := Lib.hid h1
 clear hx hne hei h1
 simp only [TV.agg]
 go_enter Tryz.func123, Tryz.ntmps123
 go_wp2_with fail
 refine (rspans_any _ T _ HE.out.tab).mono ?_
 rintro e w1 ⟨g, h, rfl, hsev, _, hb⟩
 have HS := Lib.hid hsev
 have HE1 := Lib.hid (HE.out.step hb)
 clear hb hsev
 go_wp2
 go_loopw [23] (fun i wr => ∃ k : Nat, k ≤ 7 ∧ i = .int .i64 k ∧ Hid (((spansT T).take k).all spOk = true) ∧ Hid (Env w ⟨a0, a1, a2, a3, a4, a5, a6, a7, a8, a9, .slice pe ne ce, a11⟩ T wr) ∧ Hid (SevIn wr g ⟨a0, a1, a2, a3, a4, a5, a6, a7, a8, a9, .slice pe ne ce, a11⟩)) (fun i _ => 7 - (intOf i).toNat)
 case atStart => exact ⟨0, by omega, rfl, rfl, HE1, HS⟩
 case round =>
  obtain ⟨k, hk, rfl, hall, he, hsv⟩ := hrel
  by_cases hlt : k < 7
  ·obtain ⟨p, n, c, l, hl, hln, hn, hin, hc⟩ := hsv.out.at_ he.out.tab k hlt
   have hst := sp_step spOk hlt hall.out
   have hfew := few_sp HR1.out k hlt
   rw [hl] at hst hfew
   rw [hln] at hfew
   have HST := Lib.hid hst
   have HI := Lib.hid hin
   have HLN := Lib.hid hln
   have HBAD : Hid (spOk l = false → r2 T = false) := fun h => by
    unfold r2
    rw [all_of_take spOk (spansT T) (k + 1) (by rw [HST.out, h])]; rfl
   obtain ⟨B, hB⟩ : ∃ B, Hid (ascB 0 l = B) := ⟨_, rfl⟩
   clear hl hst hln hin
   go_wp2_with fail
   refine (rsp_at (w0 := w) B HLN hfew HI.out hB).mono ?_
   rintro e w2 ⟨rfl, hb2⟩
   have HE2 := Lib.hid (he.out.step hb2)
   have HSV2 := Lib.hid (hsv.out.below hb2)
   have HI2 := Lib.hid (HI.out.below hb2)
   clear hb2 hc
   cases B with
   | false =>
    have HF := Lib.hid (HBAD.out (by unfold spOk; rw [hB.out]; rfl))
    go_wp2
    go_ret
    rw [HF.out]
    exact ⟨rfl, HE2.out.bel⟩
   | true =>
    go_wp2
    obtain ⟨wo, rfl⟩ : ∃ wo : World, wo = w2 := ⟨_, rfl⟩
    go_loopw [32] (fun i wr => ∃ j : Nat, j ≤ n ∧ i = .int .i64 j ∧ Hid ((l.take j).all (fun s => !resF s.1 s.2.1) = true) ∧ Hid (Below wo.heap.size wo wr)) (fun i _ => n - (intOf i).toNat)
    case atStart => exact ⟨0, Nat.zero_le _, rfl, by simp [Hid], Below.refl _ _⟩
    case round =>
     obtain ⟨j, hj, rfl, hall2, hb3⟩ := hrel
     by_cases hlt2 : j < n
     ·have hjl : j < l.length := by rw [HLN.out]; exact hlt2
      obtain ⟨b, off, rfl, hc1, hc2, hc3⟩ := (HI2.out.below hb3.out) j hjl
      have hs2 := all_take_snoc (fun s : Sp => !resF s.1 s.2.1) l j sp0 hjl
      rw [hall2.out, Bool.true_and] at hs2
      obtain ⟨⟨f, t, v⟩, hs⟩ : ∃ s, l.getD j sp0 = s := ⟨_, rfl⟩
      rw [hs] at hc1 hc2 hc3 hs2
      obtain ⟨C, hC⟩ : ∃ C, Hid (resF f t = C) := ⟨_, rfl⟩
      simp only at hs2
      rw [hC.out] at hs2
      have HS2 := Lib.hid hs2
      clear hs hs2
      have HBa := Lib.hid (hb3.out.alloc hb3.out.size (.cells #[.int .i64 f, .int .i64 t, .int .i64 v] 45))
      go_wp2_with fail
      refine (clean_at f t v C _ hC).mono ?_
      rintro e w4 ⟨rfl, hb4⟩
      have HB4 := Lib.hid (HBa.out.trans (hb4.mono HBa.out.size))
      clear hb4 hc1 hc2 hc3
      cases C with
      | true =>
       have HF := Lib.hid (HBAD.out (by
        unfold spOk
        rw [all_of_take _ l (j + 1) (by rw [HS2.out]; rfl), Bool.and_false]))
       go_wp2
       go_ret
       rw [HF.out]
       exact ⟨rfl, (HE2.out.step HB4.out).bel⟩
      | false =>
       have HT : Hid ((l.take (j + 1)).all (fun s => !resF s.1 s.2.1) = true) := HS2.out
       go_wp2
       go_roundw
       case rel => exact ⟨j + 1, by omega, by go_num, HT, HB4⟩
       case measure => simp [intOf]; omega
     ·obtain rfl : j = n := by omega
      have HT : Hid (((spansT T).take (k + 1)).all spOk = true) := by
       have := hall2.out
       rw [List.take_of_length_le (Nat.le_of_eq HLN.out)] at this
       unfold Hid; rw [HST.out, spOk, hB.out, this]; rfl
      go_wp2
      go_roundw
      case rel => exact ⟨k + 1, by omega, by go_num, HT, HE2.out.step hb3.out, HSV2.out.below hb3.out⟩
      case measure => simp [intOf]; omega
  ·obtain rfl : k = 7 := by omega
   have HS7 : Hid ((spansT T).all spOk = true) := by
    have := hall.out
    rwa [List.take_of_length_le (Nat.le_of_eq (spansT_len T))] at this
   have hbx := he.out.box
   simp only [BoxT] at hbx
   obtain ⟨⟨k0, k1, k2, k3, k4, k5⟩, ⟨k6, k7, k8, k9, k10, k11⟩⟩ := hbx
   go_wp2_with fail
   refine (rmaps_any _ T _ he.out.tab).mono ?_
   rintro e w2 ⟨g2, rfl, hfour, hb2⟩
   have HF4 := Lib.hid hfour
   have HE2 := Lib.hid (he.out.step hb2)
   clear hb2 hfour k0 k1 k2 k3 k4 k5 k6 k7 k8 k9 k10 k11
   go_wp2
   obtain ⟨wo, rfl⟩ : ∃ wo : World, wo = w2 := ⟨_, rfl⟩
   go_loopw [45] (fun i wr => ∃ k : Nat, k ≤ 4 ∧ i = .int .i64 k ∧ Hid (∀ j, j < k → keyF j ((mpsT T).getD j []) = true) ∧ Hid (Below wo.heap.size wo wr)) (fun i _ => 4 - (intOf i).toNat)
   case atStart => exact ⟨0, by omega, rfl, fun j hj => absurd hj (Nat.not_lt_zero _), Below.refl _ _⟩
   case round =>
    obtain ⟨k, hk, rfl, hall4, hb3⟩ := hrel
    by_cases hlt4 : k < 4
    ·obtain ⟨p, n, c, l, hl, hln, hn, hin, hc⟩ := (HF4.out.below hb3.out).at_ (HE2.out.step hb3.out).tab k hlt4
     have HBAD : Hid (keyF k l = false → r2 T = false) := fun h => mp_bad hlt4 (by rw [hl]; exact h)
     have HL4 := Lib.hid hl
     have HI := Lib.hid hin
     have HLN := Lib.hid hln
     clear hl hln hin
     have hkk1 : (k : Int) < 4 := by omega
     obtain ⟨K3, hK3⟩ : ∃ K3, ((k : Int) == 3) = K3 := ⟨_, rfl⟩
     have HK3 : Hid (decide (k = 3) = K3) := by
      unfold Hid; rw [← hK3]; exact decide_eq_decide.2 (by omega)
     go_wp2
     obtain ⟨wi, rfl⟩ : ∃ wi : World, wi = wr := ⟨_, rfl⟩
     go_loopw [52] (fun i wr => ∃ j : Nat, j ≤ n ∧ i = .int .i64 j ∧ Hid (keyF k (l.take j) = true) ∧ Hid (Below wi.heap.size wi wr)) (fun i _ => n - (intOf i).toNat)
     case atStart => exact ⟨0, Nat.zero_le _, rfl, rfl, Below.refl _ _⟩
     case round =>
      obtain ⟨j, hj, rfl, hok, hb4⟩ := hrel
      by_cases hlt5 : j < n
      ·have hjl : j < l.length := by rw [HLN.out]; exact hlt5
       obtain ⟨b, off, v, rfl, hc1, hc2, hv⟩ := (HI.out.below hb4.out) j hjl
       obtain ⟨⟨f, tl⟩, hs⟩ : ∃ s, l.getD j mp0 = s := ⟨_, rfl⟩
       rw [hs] at hc1 hv
       obtain ⟨pv, cv, rfl, _, _⟩ := hv
       obtain ⟨nt, hnt⟩ : ∃ n, tl.length = n := ⟨_, rfl⟩
       simp only at hc1 hc2
       rw [hnt] at hc2
       have HS := Lib.hid hs
       obtain ⟨C, hC⟩ : ∃ C, Hid (resB f = C) := ⟨_, rfl⟩
       obtain ⟨L, hL⟩ : ∃ L, Hid (latB f = L) := ⟨_, rfl⟩
       have HRK : Hid (rk k f = (C && !(K3 && L))) := by unfold Hid; rw [rk, hC.out, hL.out, HK3.out]
       have HBa := Lib.hid (hb4.out.alloc hb4.out.size (.cells #[.int .i64 f, .slice pv nt cv] 47))
       clear hs hnt
       go_upto_region 21 with (fail)
       go_cut [94] (fun cc wx => ∃ B : Bool, cc = .bool B ∧ Hid (B = true ↔ (f < 0 ∨ 1114111 < f ∨ f < endI 0 (froms (l.take j)) ∨ rk k f = true)) ∧ Hid (Below wi.heap.size wi wx))
       case first =>
        by_cases h1 : f < 0
        ·go_quiet (fail)
         go_wp2_with fail
         go_meet
         exact ⟨true, rfl, by unfold Hid; simp; omega, below_drewN_sp HBa.out _⟩
        ·have d1 : decide (f < 0) = false := decide_eq_false h1
         clear h1
         by_cases h2 : 1114111 < f
         ·go_quiet (fail)
          go_wp2_with fail
          go_meet
          exact ⟨true, rfl, by unfold Hid; simp; omega, below_drewN_sp HBa.out _⟩
         ·have d2 : decide (1114111 < f) = false := decide_eq_false h2
          clear h2
          cases j with
          | zero =>
           have HZ : Hid (endI 0 (froms (l.take 0)) = 0) := rfl
           cases C with
           | false =>
            go_quiet (first | (go_at_call 149; exact Calls.quiet_of_same (rres_q _ _ _ hC)) | (go_at_call 71; exact Calls.quiet_of_same (rlat_q _ _ _ hL)))
            go_wp2_with fail
            go_meet
            exact ⟨false, rfl, by unfold Hid; rw [HZ.out, HRK.out]; have := of_decide_eq_false d1; have := of_decide_eq_false d2; simp; omega, below_drewN_sp HBa.out _⟩
           | true =>
            cases K3 with
            | false =>
             go_quiet (first | (go_at_call 149; exact Calls.quiet_of_same (rres_q _ _ _ hC)) | (go_at_call 71; exact Calls.quiet_of_same (rlat_q _ _ _ hL)))
             go_wp2_with fail
             go_meet
             exact ⟨true, rfl, by unfold Hid; rw [HZ.out, HRK.out]; simp, below_drewN_sp HBa.out _⟩
            | true =>
             cases L with
             | false =>
              go_quiet (first | (go_at_call 149; exact Calls.quiet_of_same (rres_q _ _ _ hC)) | (go_at_call 71; exact Calls.quiet_of_same (rlat_q _ _ _ hL)))
              go_wp2_with fail
              go_meet
              exact ⟨true, rfl, by unfold Hid; rw [HZ.out, HRK.out]; simp, below_drewN_sp HBa.out _⟩
             | true =>
              go_quiet (first | (go_at_call 149; exact Calls.quiet_of_same (rres_q _ _ _ hC)) | (go_at_call 71; exact Calls.quiet_of_same (rlat_q _ _ _ hL)))
              go_wp2_with fail
              go_meet
              exact ⟨false, rfl, by unfold Hid; rw [HZ.out, HRK.out]; have := of_decide_eq_false d1; have := of_decide_eq_false d2; simp; omega, below_drewN_sp HBa.out _⟩
          | succ i =>
           have hil : i < l.length := by omega
           obtain ⟨b', off', v', e', q1, _, _⟩ := (HI.out.below hb4.out) i hil
           injection e' with e'
           injection e' with e1 e2
           subst e1; subst e2
           have HZ : Hid (endI 0 (froms (l.take (i + 1))) = (l.getD i mp0).1 + 1) := by
            unfold Hid
            rw [take_snoc_mp l i hil, froms, List.map_append]
            exact endI_snoc _ _ _
           obtain ⟨pf, hp⟩ : ∃ s, (l.getD i mp0).1 = s := ⟨_, rfl⟩
           rw [hp] at q1 HZ
           have q1' : (wr.alloc (.cells #[.int .i64 f, .slice pv nt cv] 47)).cell? ⟨b, off + i * 2, none⟩ = some (.int .i64 pf) := (World.cell?_alloc_lt wr _ ⟨b, off + i * 2, none⟩ (World.block_lt_of_cell? wr _ q1)).trans q1
           have hk0 : (0 : Int) < (i : Int) + 1 := by omega
           have hj0 : (0 : Int) ≤ (i : Int) := by omega
           have hj1 : (i : Int) < (n : Int) := by omega
           have hx1 : IntKind.i64.wrap ((i : Int) + 1 - 1) = i := by rw [IntWalk.i64_in _ (by omega)]; omega
           have hx2 : IntKind.i64.wrap (i : Int) = i := IntWalk.i64_in _ (by omega)
           clear hp
           by_cases h6 : f ≤ pf
           ·go_quiet (fail)
            go_wp2_with fail
            go_meet
            exact ⟨true, rfl, by unfold Hid; rw [HZ.out]; simp; omega, below_drewN_sp HBa.out _⟩
           ·have d6 : decide (f ≤ pf) = false := decide_eq_false h6
            clear h6
            cases C with
            | false =>
             go_quiet (first | (go_at_call 149; exact Calls.quiet_of_same (rres_q _ _ _ hC)) | (go_at_call 71; exact Calls.quiet_of_same (rlat_q _ _ _ hL)))
             go_wp2_with fail
             go_meet
             exact ⟨false, rfl, by unfold Hid; rw [HZ.out, HRK.out]; have := of_decide_eq_false d1; have := of_decide_eq_false d2; have := of_decide_eq_false d6; simp; omega, below_drewN_sp HBa.out _⟩
            | true =>
             cases K3 with
             | false =>
              go_quiet (first | (go_at_call 149; exact Calls.quiet_of_same (rres_q _ _ _ hC)) | (go_at_call 71; exact Calls.quiet_of_same (rlat_q _ _ _ hL)))
              go_wp2_with fail
              go_meet
              exact ⟨true, rfl, by unfold Hid; rw [HZ.out, HRK.out]; simp, below_drewN_sp HBa.out _⟩
             | true =>
              cases L with
              | false =>
               go_quiet (first | (go_at_call 149; exact Calls.quiet_of_same (rres_q _ _ _ hC)) | (go_at_call 71; exact Calls.quiet_of_same (rlat_q _ _ _ hL)))
               go_wp2_with fail
               go_meet
               exact ⟨true, rfl, by unfold Hid; rw [HZ.out, HRK.out]; simp, below_drewN_sp HBa.out _⟩
              | true =>
               go_quiet (first | (go_at_call 149; exact Calls.quiet_of_same (rres_q _ _ _ hC)) | (go_at_call 71; exact Calls.quiet_of_same (rlat_q _ _ _ hL)))
               go_wp2_with fail
               go_meet
               exact ⟨false, rfl, by unfold Hid; rw [HZ.out, HRK.out]; have := of_decide_eq_false d1; have := of_decide_eq_false d2; have := of_decide_eq_false d6; simp; omega, below_drewN_sp HBa.out _⟩
       case rest =>
        obtain ⟨B, rfl, hBB, hb5⟩ := hcut
        cases B
        ·have HN : Hid (keyF k (l.take (j + 1)) = true) := by
          unfold Hid
          rw [take_snoc_mp l j hjl, keyF_snoc, HS.out]
          have hn : ¬ (f < 0 ∨ 1114111 < f ∨ f < endI 0 (froms (l.take j)) ∨ rk k f = true) := fun h => (by have := hBB.out.2 h; cases this)
          refine ⟨hok.out, ?_, ?_, ?_⟩
          ·simp only; omega
          ·simp only; omega
          ·cases hr : rk k f with
           | false => rfl
           | true => exact (hn (.inr (.inr (.inr hr)))).elim
         clear hBB hok hb4
         go_wp2
         go_roundw
         case rel => exact ⟨j + 1, by omega, by go_num, HN, hb5⟩
         case measure => simp [intOf]; omega
        ·have HF : Hid (r2 T = false) := by
          unfold Hid
          apply HBAD.out
          apply keyF_prefix (j + 1)
          rw [← Bool.not_eq_true, take_snoc_mp l j hjl, keyF_snoc, HS.out]
          rintro ⟨_, h2, h3, h4⟩
          have := hBB.out.1 rfl
          rw [h4] at this
          simp only at h2 h3
          have h0 := endI_ge (ascI_of_keyF hok.out)
          rcases this with h | h | h | h
          ·omega
          ·omega
          ·omega
          ·cases h
         have HBB := Lib.hid (HE2.out.step hb3.out)
         clear hBB hok hb4
         go_wp2
         go_ret
         rw [HF.out]
         exact ⟨rfl, (HBB.out.step hb5.out).bel⟩
      ·obtain rfl : j = n := by omega
       have HT : Hid (∀ i, i < k + 1 → keyF i ((mpsT T).getD i []) = true) := by
        intro i hi
        by_cases hik : i < k
        ·exact hall4.out i hik
        ·obtain rfl : i = k := by omega
         have := hok.out
         rw [List.take_of_length_le (Nat.le_of_eq HLN.out)] at this
         rw [HL4.out]; exact this
       go_wp2
       go_roundw
       case rel => exact ⟨k + 1, by omega, by go_num, HT, Lib.hid (hb3.out.trans (hb4.out.mono hb3.out.size))⟩
       case measure => simp [intOf]; omega
    ·obtain rfl : k = 4 := by omega
     obtain ⟨q0, q1, q2, q3⟩ := mp_list (T := T) keyF hall4.out
     have HR2 : Hid (r2 T = keyOk T.exc) := by
      unfold Hid; rw [r2_keys, HS7.out, q0, q1, q2, q3]; rfl
     have HE3 := Lib.hid (HE2.out.step hb3.out)
     have hbx := HE3.out.box
     simp only [BoxT] at hbx
     obtain ⟨⟨_, _, _, _, _, _⟩, ⟨_, _, _, _, k10, _⟩⟩ := hbx
     clear q0 q1 q2 q3 hall4
     have HXI : Hid (IntsIn wr pe T.exc) := HEI.out.below HE3.out.bel
     go_wp2
     obtain ⟨wi, rfl⟩ : ∃ wi : World, wi = wr := ⟨_, rfl⟩
     go_loopw [100] (fun i wr => ∃ j : Nat, j ≤ ne ∧ i = .int .i64 j ∧ Hid (keyOk (T.exc.take j) = true) ∧ Hid (Below wi.heap.size wi wr)) (fun i _ => ne - (intOf i).toNat)
     case atStart => exact ⟨0, Nat.zero_le _, rfl, rfl, Below.refl _ _⟩
     case round =>
      obtain ⟨j, hj, rfl, hok, hb4⟩ := hrel
      by_cases hlt6 : j < ne
      ·have hjl : j < T.exc.length := by rw [HN.out]; exact hlt6
       obtain ⟨b, off, rfl, hc1⟩ := (HXI.out.below hb4.out) j hjl
       obtain ⟨f, hs⟩ : ∃ s, T.exc.getD j 0 = s := ⟨_, rfl⟩
       rw [hs] at hc1
       have HS := Lib.hid hs
       obtain ⟨C, hC⟩ : ∃ C, Hid (resB f = C) := ⟨_, rfl⟩
       have hx10 := (hb4.out.cell (p := ⟨w.heap.size, 10, none⟩) (World.block_lt_of_cell? wi _ k10)).trans k10
       clear hs
       go_upto_region 28 with (fail)
       go_cut [128] (fun cc wx => ∃ B : Bool, cc = .bool B ∧ Hid (B = true ↔ (f < 0 ∨ 1114111 < f ∨ f < endI 0 (T.exc.take j) ∨ resB f = true)) ∧ Hid (Below wi.heap.size wi wx))
       case first =>
        by_cases h1 : f < 0
        ·have d1 : decide (f < 0) = true := decide_eq_true h1
         have HB : Hid (f < 0) := h1
         clear h1
         go_wp2_with fail
         go_meet
         exact ⟨true, rfl, by unfold Hid; have := HB.out; simp; omega, hb4⟩
        ·have d1 : decide (f < 0) = false := decide_eq_false h1
         clear h1
         by_cases h2 : 1114111 < f
         ·have d2 : decide (1114111 < f) = true := decide_eq_true h2
          have HB : Hid (1114111 < f) := h2
          clear h2
          go_wp2_with fail
          go_meet
          exact ⟨true, rfl, by unfold Hid; have := HB.out; simp; omega, hb4⟩
         ·have d2 : decide (1114111 < f) = false := decide_eq_false h2
          clear h2
          have HD1 := Lib.hid d1
          have HD2 := Lib.hid d2
          cases j with
          | zero =>
           have HB : Hid (C = true ↔ (f < 0 ∨ 1114111 < f ∨ f < endI 0 (T.exc.take 0) ∨ resB f = true)) := by
            unfold Hid
            have := of_decide_eq_false d1; have := of_decide_eq_false d2
            rw [hC.out, show endI 0 (T.exc.take 0) = 0 from rfl]
            exact ⟨fun h => .inr (.inr (.inr h)), fun h => by rcases h with h | h | h | h <;> first | exact h | omega⟩
           go_wp2_with fail
           refine (rres_q f C _ hC).mono ?_
           rintro e w5 ⟨rfl, rfl⟩
           go_wp2_with fail
           go_meet
           exact ⟨C, rfl, HB, hb4⟩
          | succ i =>
           have hil : i < T.exc.length := by omega
           obtain ⟨b3, off3, e', q1⟩ := (HXI.out.below hb4.out) i hil
           injection e' with e'
           injection e' with e1 e2
           subst e1; subst e2
           have HZ : Hid (endI 0 (T.exc.take (i + 1)) = T.exc.getD i 0 + 1) := by
            unfold Hid; rw [take_snoc_int T.exc i hil]; exact endI_snoc _ _ _
           obtain ⟨pf, hp⟩ : ∃ s, T.exc.getD i 0 = s := ⟨_, rfl⟩
           rw [hp] at q1 HZ
           have hk0 : (0 : Int) < (i : Int) + 1 := by omega
           have hj0 : (0 : Int) ≤ (i : Int) := by omega
           have hj1 : (i : Int) < (ne : Int) := by omega
           have hx1 : IntKind.i64.wrap ((i : Int) + 1 - 1) = i := by rw [IntWalk.i64_in _ (by omega)]; omega
           have hx2 : IntKind.i64.wrap (i : Int) = i := IntWalk.i64_in _ (by omega)
           clear hp
           by_cases h6 : f ≤ pf
           ·have d6 : decide (f ≤ pf) = true := decide_eq_true h6
            have HB : Hid (f < 0 ∨ 1114111 < f ∨ f < endI 0 (T.exc.take (i + 1)) ∨ resB f = true) := by
             unfold Hid; rw [HZ.out]; exact .inr (.inr (.inl (by omega)))
            clear h6
            go_wp2_with fail
            go_meet
            exact ⟨true, rfl, ⟨fun _ => HB.out, fun _ => rfl⟩, hb4⟩
           ·have d6 : decide (f ≤ pf) = false := decide_eq_false h6
            have HB : Hid (C = true ↔ (f < 0 ∨ 1114111 < f ∨ f < endI 0 (T.exc.take (i + 1)) ∨ resB f = true)) := by
             unfold Hid
             have := of_decide_eq_false d1; have := of_decide_eq_false d2
             rw [hC.out, HZ.out]
             exact ⟨fun h => .inr (.inr (.inr h)), fun h => by rcases h with h | h | h | h <;> first | exact h | omega⟩
            clear h6
            go_wp2_with fail
            refine (rres_q f C _ hC).mono ?_
            rintro e w5 ⟨rfl, rfl⟩
            go_wp2_with fail
            go_meet
            exact ⟨C, rfl, HB, hb4⟩
       case rest =>
        obtain ⟨B, rfl, hBB, hb5⟩ := hcut
        cases B
        ·have HNX : Hid (keyOk (T.exc.take (j + 1)) = true) := by
          unfold Hid
          rw [take_snoc_int T.exc j hjl, keyOk_snoc, HS.out]
          have hn : ¬ (f < 0 ∨ 1114111 < f ∨ f < endI 0 (T.exc.take j) ∨ resB f = true) := fun h => (by have := hBB.out.2 h; cases this)
          refine ⟨hok.out, ?_, ?_, ?_⟩
          ·omega
          ·omega
          ·cases hr : resB f with
           | false => rfl
           | true => exact (hn (.inr (.inr (.inr hr)))).elim
         clear hBB hok hb4
         go_wp2
         go_roundw
         case rel => exact ⟨j + 1, by omega, by go_num, HNX, hb5⟩
         case measure => simp [intOf]; omega
        ·have HF : Hid (r2 T = false) := by
          unfold Hid
          rw [HR2.out]
          apply keyOk_prefix (j + 1)
          rw [← Bool.not_eq_true, take_snoc_int T.exc j hjl, keyOk_snoc, HS.out]
          rintro ⟨h1, h2, h3, h4⟩
          have := hBB.out.1 rfl
          rw [h4] at this
          have h0 := endI_ge (ascI_of_keyOk h1)
          rcases this with h | h | h | h
          ·omega
          ·omega
          ·omega
          ·cases h
         clear hBB hok hb4
         go_wp2
         go_ret
         rw [HF.out]
         exact ⟨rfl, (HE3.out.step hb5.out).bel⟩
      ·obtain rfl : j = ne := by omega
       have HR : Hid (r2 T = true) := by
        unfold Hid
        have := hok.out
        rw [List.take_of_length_le (Nat.le_of_eq HN.out)] at this
        rw [HR2.out]; exact this
       go_wp2
       go_ret
       rw [HR.out]
       exact ⟨rfl, (HE3.out.step hb4.out).bel⟩
end Go.Proofs.YtopaojjodkoidaaGreatDoor
