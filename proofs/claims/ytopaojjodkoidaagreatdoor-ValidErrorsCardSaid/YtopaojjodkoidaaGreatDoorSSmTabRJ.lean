/-
  The references of table: rule 6.
-/
import Derived.Test.YtopaojjodkoidaaGreatDoorSSmPkZZR
import Derived.Test.YtopaojjodkoidaaGreatDoorSSmPkC
set_option linter.unusedSimpArgs false
set_option linter.unusedVariables false
namespace Go.Proofs.YtopaojjodkoidaaGreatDoor
open Go.RowKit
def GivesF (R : Option (List Int)) (w : World) (e : Ending) (w' : World) : Prop :=
 (∀ fl, R = some fl → ∃ p n cp, e = .returned (.tuple #[.slice p n cp, .bool true]) ∧ fl.length = n ∧ n ≤ 18 ∧ IntsIn w' p fl) ∧
 (R = none → e = .returned (.tuple #[.slice none 0 0, .bool false])) ∧ Below w.heap.size w w'
theorem exp1_take {l : List Mp} {xs : List Int} (j : Nat) (hj : j < xs.length) : exp1 l (xs.take (j + 1)) = exp1 l (xs.take j) ++ if findM l (xs.getD j 0) = [] then [xs.getD j 0] else findM l (xs.getD j 0) := by
 rw [take_snoc_int xs j hj, exp1_snoc]
theorem endB_take {l : List Mp} {xs : List Int} (j : Nat) (hj : j < xs.length) : endB l (xs.take (j + 1)) = (endB l (xs.take j) && decide (findM l (xs.getD j 0) = [])) := by
 rw [take_snoc_int xs j hj, endB_snoc]
set_option maxRecDepth 100000 in
set_option maxHeartbeats 8000000 in
theorem rfull_at (x : TV) (T : Tb) (c : Int) (R : Option (List Int)) (w : World) (hx : TabV w x T) (hd : ∀ m ∈ T.dec, m.2.length ≤ 18) (hR : Hid (fullR T.dec 257 [c] = R)) :
 Calls Tryz.prog 107 #[x.agg, .int .i64 c] w (GivesF R w) := by
 have HE := Lib.hid (Env.new hx)
 have HD : Hid (∀ c, (findM T.dec c).length ≤ 18) := by
  intro c
  cases h : hasM T.dec c with
  | true => exact hd _ (findM_has h)
  | false => rw [findM_nil h]; simp
 clear hx hd
 simp only [TV.agg]
 go_enter Tryz.func107, Tryz.ntmps107
 go_wp2
 go_loopw [6, 7] (fun v6 i wr => ∃ r : Nat, r ≤ 257 ∧ i = .int .i64 r ∧ (∃ (p : Option Addr) (n cp : Nat) (xs : List Int), v6 = .slice p n cp ∧ Hid (xs.length = n) ∧ n ≤ 18 ∧ Hid (IntsIn wr p xs) ∧ Hid (fullR T.dec (257 - r) xs = R)) ∧ Hid (Env w x T wr)) (fun _ i _ => 257 - (intOf i).toNat)
 case atStart =>
  refine ⟨0, by omega, rfl, ⟨_, 1, 1, [c], rfl, rfl, by omega, ?_, hR⟩, Lib.hid (HE.out.step ((Below.refl _ _).alloc (Nat.le_refl _) _))⟩
  have := one_int (w.alloc (.cells (tabCells x) 26)) c 3
  unfold Hid
  simpa [tabCells] using this
 case round =>
  obtain ⟨r, hr, rfl, ⟨p, n, cp, xs, rfl, hxl, hn, hxi, hfr⟩, he⟩ := hrel
  by_cases hlt : r < 257
  ·have hfr1 : fullR T.dec (257 - r) xs = if endB T.dec xs = true then some xs else if 18 < (exp1 T.dec xs).length then none else fullR T.dec (257 - (r + 1)) (exp1 T.dec xs) := by
    rw [show 257 - r = (257 - (r + 1)) + 1 by omega]; rfl
   have HF := Lib.hid (hfr1.symm.trans hfr.out)
   have hri : (r : Int) ≤ 256 := by omega
   clear hfr hfr1
   go_wp2
   obtain ⟨wo, rfl⟩ : ∃ wo : World, wo = wr := ⟨_, rfl⟩
   go_loopw [8, 9, 21] (fun v8 m9 i wr => ∃ j : Nat, j ≤ n ∧ i = .int .i64 j ∧ (∃ (Y : List Int) (M : Bool), m9 = .bool M ∧ Hid (M = !endB T.dec (xs.take j)) ∧ Hid (exp1 T.dec (xs.take j) = Y) ∧ Hid (Y.length ≤ 18 * j) ∧ Hid (Ints wr wo.heap.size v8 Y)) ∧ Hid (Below wo.heap.size wo wr)) (fun _ _ i _ => n - (intOf i).toNat)
   case atStart => exact ⟨0, Nat.zero_le _, rfl, ⟨[], false, rfl, rfl, rfl, by simp [Hid], Ints.nil _ _⟩, Below.refl _ _⟩
   case round =>
    obtain ⟨j, hj, rfl, ⟨Y, M, rfl, hM, hY, hYl, ho⟩, hb⟩ := hrel
    by_cases hlt2 : j < n
    ·have hjl : j < xs.length := by rw [hxl.out]; exact hlt2
     obtain ⟨b, off, rfl, hc1⟩ := (hxi.out.below hb.out) j hjl
     have he1 := exp1_take (l := T.dec) j hjl
     have he2 := endB_take (l := T.dec) j hjl
     obtain ⟨c1, hcc⟩ : ∃ c, xs.getD j 0 = c := ⟨_, rfl⟩
     rw [hcc] at hc1 he1 he2
     obtain ⟨fl, hfl⟩ : ∃ fl, Hid (findM T.dec c1 = fl) := ⟨_, rfl⟩
     have hfl18 := HD.out c1
     rw [hfl.out] at he1 he2 hfl18
     rw [hY.out] at he1
     have H1 := Lib.hid he1
     have H2 := Lib.hid he2
     have HFL := Lib.hid hfl18
     have HEw := Lib.hid (he.out.step hb.out)
     have k9 := HEw.out.at9
     clear hcc he1 he2 hfl18
     go_wp2_with fail
     refine (rfind_at x.a9 T.dec c1 fl _ HEw.out.tab.dec hfl).mono ?_
     rintro e w2 ⟨q, m, cq, rfl, hm, hml, hqi, hb2⟩
     have HB2 := Lib.hid (hb.out.trans (hb2.mono hb.out.size))
     have HO2 := Lib.hid (ho.out.below hb2)
     have HQI := Lib.hid hqi
     have HM := Lib.hid hm
     clear hb2 k9 hqi hm
     by_cases hz : 0 < m
     ·have dz : decide ((0 : Int) < m) = true := decide_eq_true (by omega)
      have HNE : Hid (fl ≠ []) := fun h => by have := HM.out; rw [h] at this; simp at this; omega
      have HLY : Hid (Y.length + fl.length ≤ 17592186043904) := by have h1 := hYl.out; have h2 := HFL.out; unfold Hid; omega
      have HSZ := Lib.hid HB2.out.size
      go_wp2_with (at_builtin; (refine wpList_append_ints (.tmp 32) (.tmp 33) rfl rfl wo.heap.size u8 Y rfl HO2.out q m cq fl HM.out rfl HQI.out HLY.out HSZ.out ?_); intro v1 w3 ho1 hg1)
      have HO1 := Lib.hid ho1
      have HB1 := Lib.hid (below_appI HB2.out HO2.out (Nat.le_refl _) hg1)
      clear ho1 hg1
      go_wp2
      go_roundw
      case rel =>
       refine ⟨j + 1, by omega, by go_num, ⟨Y ++ fl, true, rfl, ?_, ?_, ?_, HO1⟩, HB1⟩
       ·unfold Hid; rw [H2.out, decide_eq_false HNE.out, Bool.and_false]; rfl
       ·unfold Hid; rw [H1.out, if_neg HNE.out]
       ·have h1 := hYl.out; have h2 := HFL.out; unfold Hid; rw [List.length_append]; omega
      case measure => simp [intOf]; omega
     ·have dz : decide ((0 : Int) < m) = false := decide_eq_false (by omega)
      have HE0 : Hid (fl = []) := List.eq_nil_of_length_eq_zero (by rw [HM.out]; omega)
      have HLY : Hid (Y.length ≤ 1099511627775) := by have h1 := hYl.out; unfold Hid; omega
      have HSZ := Lib.hid HB2.out.size
      go_wp2_with (at_builtin; (refine wpList_append_int (.tmp 35) (.tmp 37) rfl rfl wo.heap.size u8 Y rfl HO2.out c1 1 _ rfl (by simp) HLY.out HSZ.out ?_); intro v1 w3 ho1 hg1)
      have HO1 := Lib.hid ho1
      have HB1 := Lib.hid (below_appI HB2.out HO2.out (Nat.le_refl _) hg1)
      clear ho1 hg1
      go_wp2
      go_roundw
      case rel =>
       refine ⟨j + 1, by omega, by go_num, ⟨Y ++ [c1], M, rfl, ?_, ?_, ?_, HO1⟩, HB1⟩
       ·unfold Hid; rw [H2.out, decide_eq_true HE0.out, Bool.and_true, hM.out]
       ·unfold Hid; rw [H1.out, if_pos HE0.out]
       ·have h1 := hYl.out; unfold Hid; rw [List.length_append, List.length_singleton]; omega
      case measure => simp [intOf]; omega
    ·obtain rfl : n = j := by omega
     have hM2 := hM.out
     have hY2 := hY.out
     rw [List.take_of_length_le (Nat.le_of_eq hxl.out)] at hM2 hY2
     have HXW := Lib.hid (hxi.out.below hb.out)
     have HEw := Lib.hid (he.out.step hb.out)
     have HYI := Lib.hid ho.out.inn
     cases M with
     | false =>
      have HR : Hid (R = some xs) := by
       have hend : endB T.dec xs = true := by cases h : endB T.dec xs with
        | true => rfl
        | false => rw [h] at hM2; cases hM2
       unfold Hid; rw [← HF.out, if_pos hend]
      clear hM2 hY2 hM hY
      go_wp2
      go_ret2
      rw [HR.out]
      exact ⟨(by rintro fl ⟨⟩; exact ⟨_, _, _, rfl, hxl.out, hn, HXW.out⟩), (by rintro ⟨⟩), HEw.out.bel⟩
     | true =>
      have hend : ¬ endB T.dec xs = true := fun h => by rw [h] at hM2; cases hM2
      have hF2 := HF.out
      rw [if_neg hend, hY2] at hF2
      have HF2 := Lib.hid hF2
      obtain ⟨y, cy, hv8, hyi⟩ := HYI.out
      obtain ⟨ny, hny⟩ : ∃ n, Y.length = n := ⟨_, rfl⟩
      rw [hny] at hv8
      have HNY := Lib.hid hny
      have HYX := Lib.hid hyi
      subst hv8
      clear hM2 hY2 hM hY hend hF2 hny hyi HYI
      by_cases hbig : 18 < ny
      ·have db : decide ((18 : Int) < ny) = true := decide_eq_true (by omega)
       have HR : Hid (R = none) := by unfold Hid; rw [← HF2.out, if_pos (by rw [HNY.out]; exact hbig)]
       clear hbig
       go_wp2
       go_ret2
       rw [HR.out]
       exact ⟨(by rintro fl ⟨⟩), fun _ => rfl, HEw.out.bel⟩
      ·have db : decide ((18 : Int) < ny) = false := decide_eq_false (by omega)
       have HR : Hid (fullR T.dec (257 - (r + 1)) Y = R) := by unfold Hid; rw [← HF2.out, if_neg (by rw [HNY.out]; exact hbig)]
       have hny18 : ny ≤ 18 := by omega
       clear hbig
       go_wp2
       go_roundw
       case rel => exact ⟨r + 1, by omega, by go_num, ⟨y, ny, cy, Y, rfl, HNY, hny18, HYX, HR⟩, HEw⟩
       case measure => simp [intOf]; omega
  ·obtain rfl : r = 257 := by omega
   have HN : Hid (R = none) := by unfold Hid; rw [← hfr.out]; rfl
   go_wp2
   go_ret2
   rw [HN.out]
   exact ⟨(by rintro fl ⟨⟩), fun _ => rfl, he.out.bel⟩
set_option maxRecDepth 100000 in
set_option maxHeartbeats 8000000 in
theorem rfinite_any (x : TV) (T : Tb) (w : World) (hx : TabV w x T) (hd : ∀ m ∈ T.dec, m.2.length ≤ 18) (hl : T.dec.length ≤ 256) :
 Calls Tryz.prog 127 #[x.agg] w (Gives (.bool (r6 T)) w) := by
 obtain ⟨a0, a1, a2, a3, a4, a5, a6, a7, a8, a9, a10, a11⟩ := x
 obtain ⟨pm, cm, hm, hmin, hml⟩ := hx.dec
 obtain ⟨n, hn⟩ : ∃ n, T.dec.length = n := ⟨_, rfl⟩
 rw [hn] at hm hml hl
 simp only at hm
 subst hm
 have HE := Lib.hid (Env.new hx)
 have HN := Lib.hid hn
 have HMI := Lib.hid hmin
 have HD := Lib.hid hd
 have HL : Hid (T.dec.length ≤ 256) := by unfold Hid; rw [hn]; exact hl
 have HF : Hid (T.dec.all short2 = false → r6 T = false) := fun h => by unfold r6; rw [h]; rfl
 have HF2 : Hid ((T.dec.all fun m => decide (siz T.dec m.1 ≤ 18)) = false → r6 T = false) := fun h => by unfold r6; rw [h, Bool.and_false]
 have HT : Hid (T.dec.all short2 = true → (T.dec.all fun m => decide (siz T.dec m.1 ≤ 18)) = true → r6 T = true) := fun h1 h2 => by unfold r6; rw [h1, h2]; rfl
 clear hx hn hmin hd
 have hbx := HE.out.box
 simp only [BoxT] at hbx
 obtain ⟨⟨_, _, _, _, _, _⟩, ⟨_, _, _, k9, _, _⟩⟩ := hbx
 simp only [TV.agg]
 go_enter Tryz.func127, Tryz.ntmps127
 go_wp2
 clear k9
 go_loopw [14] (fun i wr => ∃ k : Nat, k ≤ n ∧ i = .int .i64 k ∧ Hid ((T.dec.take k).all short2 = true) ∧ Hid (Env w ⟨a0, a1, a2, a3, a4, a5, a6, a7, a8, .slice pm n cm, a10, a11⟩ T wr)) (fun i _ => n - (intOf i).toNat)
 case atStart => exact ⟨0, Nat.zero_le _, rfl, by simp [Hid], HE⟩
 case round =>
  obtain ⟨k, hk, rfl, hall, he⟩ := hrel
  by_cases hlt : k < n
  ·have hkl : k < T.dec.length := by rw [HN.out]; exact hlt
   obtain ⟨b, off, v, rfl, hc1, hc2, qa, cq, rfl, hi2, hm2⟩ := (HMI.out.below he.out.bel) k hkl
   have hsn := all_take_snoc short2 T.dec k mp0 hkl
   rw [hall.out, Bool.true_and] at hsn
   have hno : short2 (T.dec.getD k mp0) = false → r6 T = false := fun h => HF.out (all_of_take _ T.dec (k + 1) (by rw [hsn, h]))
   obtain ⟨⟨f, y⟩, hs⟩ : ∃ s, T.dec.getD k mp0 = s := ⟨_, rfl⟩
   rw [hs] at hc1 hc2 hsn hno hi2 hm2
   simp only at hc1 hc2 hsn hno hi2 hm2
   obtain ⟨m, hm3⟩ : ∃ m, y.length = m := ⟨_, rfl⟩
   rw [hm3] at hc2 hm2
   simp only [short2] at hsn hno
   rw [hm3] at hsn hno
   have HSN := Lib.hid hsn
   have HNO := Lib.hid hno
   have HYL := Lib.hid hm3
   have HEb := Lib.hid (he.out.step ((Below.refl _ _).alloc (Nat.le_refl _) (.cells #[.int .i64 f, .slice qa m cq] 47)))
   have HY1 := Lib.hid (RowIn.alloc hi2 (.cells #[.int .i64 f, .slice qa m cq] 47))
   clear hs hsn hno hi2 hm3
   by_cases hbig : 2 < m
   ·have d1 : decide ((2 : Int) < m) = true := decide_eq_true (by omega)
    have HFF : Hid (r6 T = false) := HNO.out (by rw [decide_eq_false (by omega)]; rfl)
    clear hbig
    go_wp2
    go_ret
    rw [HFF.out]
    exact ⟨rfl, HEb.out.bel⟩
   ·have d1 : decide ((2 : Int) < m) = false := decide_eq_false (by omega)
    have HNO2 : Hid ((y.all fun c => !forb c) = false → r6 T = false) := fun h => HNO.out (by rw [h, Bool.and_false])
    have HSN2 : Hid ((T.dec.take (k + 1)).all short2 = y.all fun c => !forb c) := by
     unfold Hid; rw [HSN.out, decide_eq_true (by omega), Bool.true_and]
    clear hbig
    go_wp2
    obtain ⟨wo, hwo⟩ : ∃ wo : World, wo = wr.alloc (.cells #[.int .i64 f, .slice qa m cq] 47) := ⟨_, rfl⟩
    rw [← hwo] at HEb HY1 ⊢
    obtain ⟨q, hq⟩ : ∃ q : Nat, q = wr.heap.size := ⟨_, rfl⟩
    simp only [← hq]
    clear hwo hq hc1 hc2 he
    go_loop [6, 25] (fun _ i => ∃ j : Nat, j ≤ m ∧ i = .int .i64 j ∧ Hid (((y.take j).all fun c => !forb c) = true)) (fun _ i => m - (intOf i).toNat)
    case atStart => exact ⟨0, Nat.zero_le _, rfl, by simp [Hid]⟩
    case round =>
     obtain ⟨j, hj, rfl, hall2⟩ := hrel
     by_cases hlt2 : j < m
     ·have hjl : j < y.length := by rw [HYL.out]; exact hlt2
      obtain ⟨b3, off3, rfl, hc3⟩ := HY1.out j hjl
      have hs2 := all_take_snoc (fun c => !forb c) y j 0 hjl
      rw [hall2.out, Bool.true_and] at hs2
      obtain ⟨c, hcc⟩ : ∃ c, y.getD j 0 = c := ⟨_, rfl⟩
      rw [hcc] at hc3 hs2
      obtain ⟨D, hD⟩ : ∃ D, (c == 46) = D := ⟨_, rfl⟩
      obtain ⟨S, hS⟩ : ∃ S, Hid (sylB c = S) := ⟨_, rfl⟩
      obtain ⟨J, hJ⟩ : ∃ J, Hid (jamB c = J) := ⟨_, rfl⟩
      have hfo : forb c = (D || (S || J)) := by unfold forb; rw [hS.out, hJ.out, ← hD]; rfl
      rw [hfo] at hs2
      have HS2 := Lib.hid hs2
      clear hcc hs2 hfo
      cases D with
      | true =>
       have HFF : Hid (r6 T = false) := HNO2.out (all_of_take _ y (j + 1) (by rw [HS2.out]; rfl))
       go_wp2
       go_ret
       rw [HFF.out]
       exact ⟨rfl, HEb.out.bel⟩
      | false =>
       go_wp2_with fail
       refine (rsyl_at c S _ hS).mono ?_
       rintro e w5 ⟨rfl, rfl⟩
       cases S with
       | true =>
        have HFF : Hid (r6 T = false) := HNO2.out (all_of_take _ y (j + 1) (by rw [HS2.out]; rfl))
        go_wp2
        go_ret
        rw [HFF.out]
        exact ⟨rfl, HEb.out.bel⟩
       | false =>
        go_wp2_with fail
        refine (rjam_at c J _ hJ).mono ?_
        rintro e w5 ⟨rfl, rfl⟩
        cases J with
        | true =>
         have HFF : Hid (r6 T = false) := HNO2.out (all_of_take _ y (j + 1) (by rw [HS2.out]; rfl))
         go_wp2
         go_ret
         rw [HFF.out]
         exact ⟨rfl, HEb.out.bel⟩
        | false =>
         have HTT : Hid (((y.take (j + 1)).all fun c => !forb c) = true) := by unfold Hid; rw [HS2.out]; rfl
         go_wp2
         go_round
         case rel => exact ⟨j + 1, by omega, by go_num, HTT⟩
         case measure => simp [intOf]; omega
     ·obtain rfl : j = m := by omega
      have HTT : Hid ((T.dec.take (k + 1)).all short2 = true) := by
       have h := hall2.out
       rw [List.take_of_length_le (Nat.le_of_eq HYL.out)] at h
       unfold Hid; rw [HSN2.out, h]
      go_wp2
      go_roundw
      case rel => exact ⟨k + 1, by omega, by go_num, HTT, HEb⟩
      case measure => simp [intOf]; omega
  ·obtain rfl : k = n := by omega
   have HA : Hid (T.dec.all short2 = true) := by
    have := hall.out
    rwa [List.take_of_length_le (Nat.le_of_eq HN.out)] at this
   have hbx := he.out.box
   simp only [BoxT] at hbx
   obtain ⟨⟨_, _, _, _, _, _⟩, ⟨_, _, _, k9, _, _⟩⟩ := hbx
   go_wp2
   clear k9
   obtain ⟨wa, rfl⟩ : ∃ wa : World, wa = wr := ⟨_, rfl⟩
   go_loopw [44] (fun i wr => ∃ j : Nat, j ≤ k ∧ i = .int .i64 j ∧ Hid (((T.dec.take j).all fun m => decide (siz T.dec m.1 ≤ 18)) = true) ∧ Hid (Env w ⟨a0, a1, a2, a3, a4, a5, a6, a7, a8, .slice pm k cm, a10, a11⟩ T wr)) (fun i _ => k - (intOf i).toNat)
   case atStart => exact ⟨0, Nat.zero_le _, rfl, by simp [Hid], he⟩
   case round =>
    obtain ⟨j, hj, rfl, hall2, he2⟩ := hrel
    by_cases hlt : j < k
    ·have hkl : j < T.dec.length := by rw [HN.out]; exact hlt
     obtain ⟨b, off, v, rfl, hc1, hc2, qa, cq, rfl, _, _⟩ := (HMI.out.below he2.out.bel) j hkl
     have hsn := all_take_snoc (fun m => decide (siz T.dec m.1 ≤ 18)) T.dec j mp0 hkl
     rw [hall2.out, Bool.true_and] at hsn
     have hno : (decide (siz T.dec (T.dec.getD j mp0).1 ≤ 18)) = false → r6 T = false := fun h => HF2.out (all_of_take _ T.dec (j + 1) (by rw [hsn, h]))
     obtain ⟨⟨f, y⟩, hs⟩ : ∃ s, T.dec.getD j mp0 = s := ⟨_, rfl⟩
     rw [hs] at hc1 hc2 hsn hno
     simp only at hc1 hc2 hsn hno
     obtain ⟨m, hm3⟩ : ∃ m, y.length = m := ⟨_, rfl⟩
     rw [hm3] at hc2
     have HSN := Lib.hid hsn
     have HNO := Lib.hid hno
     have HEb := Lib.hid (he2.out.step ((Below.refl _ _).alloc (Nat.le_refl _) (.cells #[.int .i64 f, .slice qa m cq] 47)))
     obtain ⟨R, hR⟩ : ∃ R, Hid (fullR T.dec 257 [f] = R) := ⟨_, rfl⟩
     have hfe := full_eq HL.out f
     rw [hR.out] at hfe
     have HFE := Lib.hid hfe
     clear hs hsn hno hm3 hfe
     have hbx := HEb.out.box
     simp only [BoxT] at hbx
     obtain ⟨⟨k0, k1, k2, k3, k4, k5⟩, ⟨k6, k7, k8, k9, k10, k11⟩⟩ := hbx
     go_wp2_with fail
     refine (rfull_at _ T f R _ HEb.out.tab HD.out hR).mono ?_
     rintro e w2 ⟨hs1, hs2, hb2⟩
     have HE2 := Lib.hid (HEb.out.step hb2)
     clear hb2 k0 k1 k2 k3 k4 k5 k6 k7 k8 k9 k10 k11 hc1 hc2
     by_cases h18 : siz T.dec f ≤ 18
     ·have hR2 := HFE.out
      rw [if_pos h18] at hR2
      obtain ⟨p, nn, cp, rfl, _, _, _⟩ := hs1 _ hR2
      have HTT : Hid (((T.dec.take (j + 1)).all fun m => decide (siz T.dec m.1 ≤ 18)) = true) := by unfold Hid; rw [HSN.out]; exact decide_eq_true h18
      clear hs1 hs2 hR2 h18
      go_wp2
      go_roundw
      case rel => exact ⟨j + 1, by omega, by go_num, HTT, HE2⟩
      case measure => simp [intOf]; omega
     ·have hR2 := HFE.out
      rw [if_neg h18] at hR2
      have := hs2 hR2
      subst this
      have HFF : Hid (r6 T = false) := HNO.out (decide_eq_false h18)
      clear hs1 hs2 hR2 h18
      go_wp2
      go_ret
      rw [HFF.out]
      exact ⟨rfl, HE2.out.bel⟩
    ·obtain rfl : j = k := by omega
     have HTT : Hid (r6 T = true) := by
      have := hall2.out
      rw [List.take_of_length_le (Nat.le_of_eq HN.out)] at this
      exact HT.out HA.out this
     go_wp2
     go_ret
     rw [HTT.out]
     exact ⟨rfl, he2.out.bel⟩
end Go.Proofs.YtopaojjodkoidaaGreatDoor
