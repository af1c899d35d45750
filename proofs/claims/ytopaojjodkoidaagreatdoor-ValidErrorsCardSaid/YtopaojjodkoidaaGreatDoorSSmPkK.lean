/-
  The references of table: rule 3.
  The references of table: rule 4.
-/
import Derived.Test.YtopaojjodkoidaaGreatDoorSSmTabRC
set_option linter.unusedSimpArgs false
set_option linter.unusedVariables false
namespace Go.Proofs.YtopaojjodkoidaaGreatDoor
open Go.RowKit
def valV (k : Nat) (v : Int) : Bool := !(decide (v < 0) || decide (mostL.getD k 0 < v) || decide (v = 0) && (decide (k = 1) || decide (k = 6)))
def valF (k : Nat) (l : List Sp) : Bool := l.all fun s => valV k s.2.2
theorem valF_ok {k : Nat} {lo hi : Int} {l : List Sp} (hh : mostL.getD k 0 = hi) (hlo : lo = if k = 1 ∨ k = 6 then 1 else 0) : valF k l = valOk lo hi l := by
 unfold valF valOk
 congr 1
 funext s
 rw [Bool.eq_iff_iff]
 simp only [valV, hh, hlo, Bool.not_eq_true', Bool.or_eq_false_iff, Bool.and_eq_false_iff, decide_eq_false_iff_not, Bool.and_eq_true, decide_eq_true_eq]
 by_cases h : k = 1 ∨ k = 6
 ·rw [if_pos h]; omega
 ·rw [if_neg h]; omega
theorem r3_vals (T : Tb) : r3 T = (valF 0 T.cat && (valF 1 T.cls && (valF 2 T.joi && (valF 3 T.bid && (valF 4 T.scr && (valF 5 T.sta && valF 6 T.ign)))))) := by
 unfold r3
 rw [valF_ok (k := 0) (lo := 0) (hi := 8) rfl rfl, valF_ok (k := 1) (lo := 1) (hi := 254) rfl rfl, valF_ok (k := 2) (lo := 0) (hi := 5) rfl rfl, valF_ok (k := 3) (lo := 0) (hi := 11) rfl rfl, valF_ok (k := 4) (lo := 0) (hi := 60) rfl rfl, valF_ok (k := 5) (lo := 0) (hi := 4) rfl rfl, valF_ok (k := 6) (lo := 1) (hi := 1) rfl rfl]
theorem sp_list {T : Tb} (q : (k : Nat) → List Sp → Bool) (h : ∀ j, j < 7 → q j ((spansT T).getD j []) = true) : (q 0 T.cat && (q 1 T.cls && (q 2 T.joi && (q 3 T.bid && (q 4 T.scr && (q 5 T.sta && q 6 T.ign)))))) = true := by
 have h0 : q 0 T.cat = true := h 0 (by omega)
 have h1 : q 1 T.cls = true := h 1 (by omega)
 have h2 : q 2 T.joi = true := h 2 (by omega)
 have h3 : q 3 T.bid = true := h 3 (by omega)
 have h4 : q 4 T.scr = true := h 4 (by omega)
 have h5 : q 5 T.sta = true := h 5 (by omega)
 have h6 : q 6 T.ign = true := h 6 (by omega)
 rw [h0, h1, h2, h3, h4, h5, h6]; rfl
theorem sp_bad {T : Tb} (q : (k : Nat) → List Sp → Bool) {j : Nat} (hj : j < 7) (h : q j ((spansT T).getD j []) = false) : (q 0 T.cat && (q 1 T.cls && (q 2 T.joi && (q 3 T.bid && (q 4 T.scr && (q 5 T.sta && q 6 T.ign)))))) = false := by
 have : j = 0 ∨ j = 1 ∨ j = 2 ∨ j = 3 ∨ j = 4 ∨ j = 5 ∨ j = 6 := by omega
 rcases this with rfl | rfl | rfl | rfl | rfl | rfl | rfl
 ·rw [show q 0 T.cat = false from h]; simp
 ·rw [show q 1 T.cls = false from h]; simp
 ·rw [show q 2 T.joi = false from h]; simp
 ·rw [show q 3 T.bid = false from h]; simp
 ·rw [show q 4 T.scr = false from h]; simp
 ·rw [show q 5 T.sta = false from h]; simp
 ·rw [show q 6 T.ign = false from h]; simp
theorem most_at {w : World} {h : Nat} (hi : IntsIn w (some ⟨h, 0, none⟩) mostL) (k : Nat) (hk : k < 7) : w.cell? ⟨h, k, none⟩ = some (.int .i64 (mostL.getD k 0)) := by
 obtain ⟨b, off, e, hc⟩ := hi k hk
 injection e with e
 injection e with e1 e2
 subst e1; subst e2
 rwa [Nat.zero_add] at hc
set_option maxRecDepth 100000 in
set_option maxHeartbeats 8000000 in
theorem rranged_any (x : TV) (T : Tb) (w : World) (hx : TabV w x T) :
 Calls Tryz.prog 124 #[x.agg] w (Gives (.bool (r3 T)) w) := by
 have HE := Lib.hid (Env.new hx)
 clear hx
 simp only [TV.agg]
 go_enter Tryz.func124, Tryz.ntmps124
 go_wp2_with fail
 refine (rspans_any _ T _ HE.out.tab).mono ?_
 rintro e w1 ⟨g, h, rfl, hsev, hmo, hb⟩
 have HS := Lib.hid hsev
 have HM := Lib.hid hmo
 have HE1 := Lib.hid (HE.out.step hb)
 clear hb hsev hmo
 go_wp2
 obtain ⟨wo, rfl⟩ : ∃ wo : World, wo = w1 := ⟨_, rfl⟩
 go_loopw [16] (fun i wr => ∃ k : Nat, k ≤ 7 ∧ i = .int .i64 k ∧ Hid (∀ j, j < k → valF j ((spansT T).getD j []) = true) ∧ Hid (Below wo.heap.size wo wr)) (fun i _ => 7 - (intOf i).toNat)
 case atStart => exact ⟨0, by omega, rfl, fun j hj => absurd hj (Nat.not_lt_zero _), Below.refl _ _⟩
 case round =>
  obtain ⟨k, hk, rfl, hall, hb1⟩ := hrel
  by_cases hlt : k < 7
  ·obtain ⟨p, n, c, l, hl, hln, hn, hin, hc⟩ := (HS.out.below hb1.out).at_ (HE1.out.step hb1.out).tab k hlt
   have HBAD : Hid (valF k l = false → r3 T = false) := fun h => by
    rw [r3_vals]; exact sp_bad valF hlt (by rw [hl]; exact h)
   have HL4 := Lib.hid hl
   have HI := Lib.hid hin
   have HLN := Lib.hid hln
   have hmk := most_at (HM.out.below hb1.out) k hlt
   have HMK := Lib.hid hmk
   clear hl hln hin hmk
   have hkk0 : (0 : Int) ≤ (k : Int) := by omega
   have hkk1 : (k : Int) < 7 := by omega
   go_wp2
   obtain ⟨wi, rfl⟩ : ∃ wi : World, wi = wr := ⟨_, rfl⟩
   go_loopw [23] (fun i wr => ∃ j : Nat, j ≤ n ∧ i = .int .i64 j ∧ Hid ((l.take j).all (fun s => valV k s.2.2) = true) ∧ Hid (Below wi.heap.size wi wr)) (fun i _ => n - (intOf i).toNat)
   case atStart => exact ⟨0, Nat.zero_le _, rfl, rfl, Below.refl _ _⟩
   case round =>
    obtain ⟨j, hj, rfl, hok, hb4⟩ := hrel
    by_cases hlt5 : j < n
    ·have hjl : j < l.length := by rw [HLN.out]; exact hlt5
     obtain ⟨b, off, rfl, hc1, hc2, hc3⟩ := (HI.out.below hb4.out) j hjl
     have hst := all_take_snoc (fun s : Sp => valV k s.2.2) l j sp0 hjl
     rw [hok.out, Bool.true_and] at hst
     obtain ⟨⟨f, t, v⟩, hs⟩ : ∃ s, l.getD j sp0 = s := ⟨_, rfl⟩
     rw [hs] at hc1 hc2 hc3 hst
     simp only at hst
     obtain ⟨mk, hmk⟩ : ∃ m, mostL.getD k 0 = m := ⟨_, rfl⟩
     obtain ⟨K1, hK1⟩ : ∃ K, ((k : Int) == 1) = K := ⟨_, rfl⟩
     obtain ⟨K6, hK6⟩ : ∃ K, ((k : Int) == 6) = K := ⟨_, rfl⟩
     have hvv : valV k v = !(decide (v < 0) || decide (mk < v) || (v == 0) && (K1 || K6)) := by
      rw [valV, hmk, ← hK1, ← hK6, show decide (k = 1) = ((k : Int) == 1) from decide_eq_decide.2 (by omega), show decide (k = 6) = ((k : Int) == 6) from decide_eq_decide.2 (by omega)]
      rfl
     have hm1 := (hb4.out.cell (p := ⟨h, k, none⟩) (World.block_lt_of_cell? wi _ HMK.out)).trans HMK.out
     rw [hmk] at hm1
     have hm2 : (wr.alloc (.cells #[.int .i64 f, .int .i64 t, .int .i64 v] 45)).cell? ⟨h, k, none⟩ = some (.int .i64 mk) := (World.cell?_alloc_lt wr _ ⟨h, k, none⟩ (World.block_lt_of_cell? wr _ hm1)).trans hm1
     have HST := Lib.hid hst
     have HVV := Lib.hid hvv
     have HBa := Lib.hid (hb4.out.alloc hb4.out.size (.cells #[.int .i64 f, .int .i64 t, .int .i64 v] 45))
     clear hs hst hvv hmk hm1
     go_upto_region 8 with (fail)
     go_cut [51] (fun cc wx => ∃ B : Bool, cc = .bool B ∧ Hid (B = !valV k v) ∧ Hid (Below wi.heap.size wi wx))
     case first =>
      by_cases h1 : v < 0
      ·go_quiet (fail)
       go_wp2_with fail
       go_meet
       exact ⟨true, rfl, by unfold Hid; rw [HVV.out]; simp [h1], below_drewN_sp HBa.out _⟩
      ·have d1 : decide (v < 0) = false := decide_eq_false h1
       clear h1
       by_cases h2 : mk < v
       ·go_quiet (fail)
        go_wp2_with fail
        go_meet
        exact ⟨true, rfl, by unfold Hid; rw [HVV.out]; simp [h2], below_drewN_sp HBa.out _⟩
       ·have d2 : decide (mk < v) = false := decide_eq_false h2
        clear h2
        by_cases h3 : v = 0
        ·have d3 : (v == 0) = true := decide_eq_true h3
         clear h3
         cases K1 with
         | true =>
          go_quiet (fail)
          go_wp2_with fail
          go_meet
          exact ⟨true, rfl, by unfold Hid; rw [HVV.out, d1, d2, d3]; rfl, below_drewN_sp HBa.out _⟩
         | false =>
          cases K6 with
          | true =>
           go_quiet (fail)
           go_wp2_with fail
           go_meet
           exact ⟨true, rfl, by unfold Hid; rw [HVV.out, d1, d2, d3]; rfl, below_drewN_sp HBa.out _⟩
          | false =>
           go_quiet (fail)
           go_wp2_with fail
           go_meet
           exact ⟨false, rfl, by unfold Hid; rw [HVV.out, d1, d2, d3]; rfl, below_drewN_sp HBa.out _⟩
        ·have d3 : (v == 0) = false := decide_eq_false h3
         clear h3
         go_quiet (fail)
         go_wp2_with fail
         go_meet
         exact ⟨false, rfl, by unfold Hid; rw [HVV.out, d1, d2, d3]; rfl, below_drewN_sp HBa.out _⟩
     case rest =>
      obtain ⟨B, rfl, hBB, hb5⟩ := hcut
      cases B
      ·have HN : Hid ((l.take (j + 1)).all (fun s => valV k s.2.2) = true) := by
        unfold Hid; rw [HST.out]
        have := hBB.out
        cases hv : valV k v with
        | true => rfl
        | false => rw [hv] at this; cases this
       clear hBB hok hb4
       go_wp2
       go_roundw
       case rel => exact ⟨j + 1, by omega, by go_num, HN, hb5⟩
       case measure => simp [intOf]; omega
      ·have HF : Hid (r3 T = false) := by
        unfold Hid
        apply HBAD.out
        have := hBB.out
        exact all_of_take _ l (j + 1) (by
         rw [HST.out]
         cases hv : valV k v with
         | true => rw [hv] at this; cases this
         | false => rfl)
       have HBB := Lib.hid (HE1.out.step hb1.out)
       clear hBB hok hb4
       go_wp2
       go_ret
       rw [HF.out]
       exact ⟨rfl, (HBB.out.step hb5.out).bel⟩
    ·obtain rfl : j = n := by omega
     have HT : Hid (∀ i, i < k + 1 → valF i ((spansT T).getD i []) = true) := by
      intro i hi
      by_cases hik : i < k
      ·exact hall.out i hik
      ·obtain rfl : i = k := by omega
       have := hok.out
       rw [List.take_of_length_le (Nat.le_of_eq HLN.out)] at this
       rw [HL4.out]; exact this
     go_wp2
     go_roundw
     case rel => exact ⟨k + 1, by omega, by go_num, HT, Lib.hid (hb1.out.trans (hb4.out.mono hb1.out.size))⟩
     case measure => simp [intOf]; omega
  ·obtain rfl : k = 7 := by omega
   have HR : Hid (r3 T = true) := by unfold Hid; rw [r3_vals]; exact sp_list valF hall.out
   have HBB := Lib.hid (HE1.out.step hb1.out)
   clear hall
   go_wp2
   go_ret
   rw [HR.out]
   exact ⟨rfl, HBB.out.bel⟩
def elF (k : Nat) (a : List Int) : Bool := if k = 0 then ascI 3 60 a else a.all scaB
def elO (k : Nat) (a : List Int) (c : Int) : Bool := if k = 0 then decide (endI 3 a ≤ c) && decide (c ≤ 60) else scaB c
def seqF (k : Nat) (m : Mp) : Bool := decide (1 ≤ m.2.length) && decide (m.2.length ≤ 18) && elF k m.2
def lstF (k : Nat) (l : List Mp) : Bool := l.all (seqF k)
theorem elF_snoc (k : Nat) (a : List Int) (c : Int) : elF k (a ++ [c]) = (elF k a && elO k a c) := by
 unfold elF elO
 by_cases h : k = 0
 ·rw [if_pos h, if_pos h, if_pos h, Bool.eq_iff_iff, Bool.and_eq_true, Bool.and_eq_true, ascI_snoc]; simp
 ·rw [if_neg h, if_neg h, if_neg h]; simp
theorem elF_take {k : Nat} {a : List Int} (i : Nat) (h : elF k (a.take i) = false) : elF k a = false := by
 unfold elF at h ⊢
 by_cases hk : k = 0
 ·rw [if_pos hk] at h ⊢; exact ascI_prefix i h
 ·rw [if_neg hk] at h ⊢; exact all_of_take _ _ i h
theorem r4_lst (T : Tb) : r4 T = (lstF 0 T.ext && (lstF 1 T.map && (lstF 2 T.dec && lstF 3 T.pro))) := rfl
theorem mp_all {T : Tb} (q : (k : Nat) → List Mp → Bool) (h : ∀ j, j < 4 → q j ((mpsT T).getD j []) = true) : (q 0 T.ext && (q 1 T.map && (q 2 T.dec && q 3 T.pro))) = true := by
 obtain ⟨h0, h1, h2, h3⟩ := mp_list q h
 rw [h0, h1, h2, h3]; rfl
theorem mp_none {T : Tb} (q : (k : Nat) → List Mp → Bool) {j : Nat} (hj : j < 4) (h : q j ((mpsT T).getD j []) = false) : (q 0 T.ext && (q 1 T.map && (q 2 T.dec && q 3 T.pro))) = false := by
 have : j = 0 ∨ j = 1 ∨ j = 2 ∨ j = 3 := by omega
 rcases this with rfl | rfl | rfl | rfl
 ·rw [show q 0 T.ext = false from h]; simp
 ·rw [show q 1 T.map = false from h]; simp
 ·rw [show q 2 T.dec = false from h]; simp
 ·rw [show q 3 T.pro = false from h]; simp
theorem rsca_at (c : Int) (B : Bool) (w : World) (hB : Hid (scaB c = B)) : Calls Tryz.prog 98 #[.int .i64 c] w fun e w' => e = .returned (.bool B) ∧ w = w' := hB.out ▸ rsca_any c w
set_option maxRecDepth 100000 in
set_option maxHeartbeats 8000000 in
theorem rsized_any (x : TV) (T : Tb) (w : World) (hx : TabV w x T) :
 Calls Tryz.prog 125 #[x.agg] w (Gives (.bool (r4 T)) w) := by
 have HE := Lib.hid (Env.new hx)
 clear hx
 simp only [TV.agg]
 go_enter Tryz.func125, Tryz.ntmps125
 go_wp2_with fail
 refine (rmaps_any _ T _ HE.out.tab).mono ?_
 rintro e w1 ⟨g, rfl, hfour, hb⟩
 have HS := Lib.hid hfour
 have HE1 := Lib.hid (HE.out.step hb)
 clear hb hfour
 go_wp2
 obtain ⟨wo, rfl⟩ : ∃ wo : World, wo = w1 := ⟨_, rfl⟩
 go_loopw [14] (fun i wr => ∃ k : Nat, k ≤ 4 ∧ i = .int .i64 k ∧ Hid (∀ j, j < k → lstF j ((mpsT T).getD j []) = true) ∧ Hid (Below wo.heap.size wo wr)) (fun i _ => 4 - (intOf i).toNat)
 case atStart => exact ⟨0, by omega, rfl, fun j hj => absurd hj (Nat.not_lt_zero _), Below.refl _ _⟩
 case round =>
  obtain ⟨k, hk, rfl, hall, hb1⟩ := hrel
  by_cases hlt : k < 4
  ·obtain ⟨p, n, c, l, hl, hln, hn, hin, hc⟩ := (HS.out.below hb1.out).at_ (HE1.out.step hb1.out).tab k hlt
   have HBAD : Hid (lstF k l = false → r4 T = false) := fun h => by
    rw [r4_lst]; exact mp_none lstF hlt (by rw [hl]; exact h)
   have HL4 := Lib.hid hl
   have HI := Lib.hid hin
   have HLN := Lib.hid hln
   have HBW := Lib.hid (HE1.out.step hb1.out)
   clear hl hln hin
   have hkk0 : (0 : Int) ≤ (k : Int) := by omega
   have hkk1 : (k : Int) < 4 := by omega
   go_wp2
   obtain ⟨wi, rfl⟩ : ∃ wi : World, wi = wr := ⟨_, rfl⟩
   go_loopw [21] (fun i wr => ∃ j : Nat, j ≤ n ∧ i = .int .i64 j ∧ Hid ((l.take j).all (seqF k) = true) ∧ Hid (Below wi.heap.size wi wr)) (fun i _ => n - (intOf i).toNat)
   case atStart => exact ⟨0, Nat.zero_le _, rfl, rfl, Below.refl _ _⟩
   case round =>
    obtain ⟨j, hj, rfl, hok, hb4⟩ := hrel
    by_cases hlt5 : j < n
    ·have hjl : j < l.length := by rw [HLN.out]; exact hlt5
     obtain ⟨b, off, v, rfl, hc1, hc2, hv⟩ := (HI.out.below hb4.out) j hjl
     have hst := all_take_snoc (seqF k) l j mp0 hjl
     rw [hok.out, Bool.true_and] at hst
     obtain ⟨⟨f, tl⟩, hs⟩ : ∃ s, l.getD j mp0 = s := ⟨_, rfl⟩
     rw [hs] at hc1 hv hst
     obtain ⟨pv, cv, rfl, hvi, hvl⟩ := hv
     obtain ⟨nt, hnt⟩ : ∃ n, tl.length = n := ⟨_, rfl⟩
     simp only at hc1 hc2 hvl hvi
     rw [hnt] at hc2 hvl
     simp only [seqF] at hst
     rw [hnt] at hst
     have HST := Lib.hid hst
     have HNT := Lib.hid hnt
     have HBF : Hid ((decide (1 ≤ nt) && decide (nt ≤ 18) && elF k tl) = false → r4 T = false) := fun h => HBAD.out (by
      unfold lstF; exact all_of_take _ l (j + 1) (by rw [HST.out]; exact h))
     have HVI := Lib.hid (hvi.below ((Below.refl _ _).alloc (Nat.le_refl _) (.cells #[.int .i64 f, .slice pv nt cv] 47)))
     have HBa := Lib.hid (hb4.out.alloc hb4.out.size (.cells #[.int .i64 f, .slice pv nt cv] 47))
     have hcm : (wr.alloc (.cells #[.int .i64 f, .slice pv nt cv] 47)).cell? ⟨wr.heap.size, 1, none⟩ = some (.slice pv nt cv) := by simp [World.cell?_alloc_new]
     have HCM := Lib.hid hcm
     clear hs hst hnt hvi hcm
     by_cases h1 : nt < 1
     ·have d1 : decide ((nt : Int) < 1) = true := decide_eq_true (by omega)
      have HF := Lib.hid (HBF.out (by rw [decide_eq_false (show ¬ 1 ≤ nt by omega)]; rfl))
      clear h1
      go_wp2
      go_ret
      rw [HF.out]
      exact ⟨rfl, (HBW.out.step HBa.out).bel⟩
     ·have d1 : decide ((nt : Int) < 1) = false := decide_eq_false (by omega)
      by_cases h2 : 18 < nt
      ·have d2 : decide ((18 : Int) < nt) = true := decide_eq_true (by omega)
       have HF := Lib.hid (HBF.out (by rw [decide_eq_false (show ¬ nt ≤ 18 by omega), Bool.and_false]; rfl))
       clear h1 h2
       go_wp2
       go_ret
       rw [HF.out]
       exact ⟨rfl, (HBW.out.step HBa.out).bel⟩
      ·have d2 : decide ((18 : Int) < nt) = false := decide_eq_false (by omega)
       have HBE : Hid (elF k tl = false → r4 T = false) := fun h => HBF.out (by rw [h, Bool.and_false])
       have HGE : Hid (elF k tl = true → (l.take (j + 1)).all (seqF k) = true) := fun h => by
        rw [HST.out, h, decide_eq_true (show 1 ≤ nt by omega), decide_eq_true (show nt ≤ 18 by omega)]; rfl
       clear h1
       go_wp2
       obtain ⟨wm, hwm⟩ : ∃ wm : World, wm = wr.alloc (.cells #[.int .i64 f, .slice pv nt cv] 47) := ⟨_, rfl⟩
       obtain ⟨q, hq⟩ : ∃ q : Nat, q = wr.heap.size := ⟨_, rfl⟩
       rw [← hwm] at HVI HBa HCM ⊢
       simp only [← hq] at HCM ⊢
       clear hwm hq hc1 hc2 hb4
       obtain ⟨K0, hK0⟩ : ∃ K, ((k : Int) == 0) = K := ⟨_, rfl⟩
       have HK0 : Hid (decide (k = 0) = K0) := by unfold Hid; rw [← hK0]; exact decide_eq_decide.2 (by omega)
       go_loopw [38] (fun i wr => ∃ a : Nat, a ≤ nt ∧ i = .int .i64 a ∧ Hid (elF k (tl.take a) = true) ∧ Hid (Below wm.heap.size wm wr)) (fun i _ => nt - (intOf i).toNat)
       case atStart => exact ⟨0, Nat.zero_le _, rfl, by unfold Hid elF; split <;> rfl, Below.refl _ _⟩
       case round =>
        obtain ⟨a, ha, rfl, hel, hb5⟩ := hrel
        by_cases hlt6 : a < nt
        ·have hal : a < tl.length := by rw [HNT.out]; exact hlt6
         obtain ⟨b2, off2, rfl, hca⟩ := (HVI.out.below hb5.out) a hal
         have hsn : elF k (tl.take (a + 1)) = elO k (tl.take a) (tl.getD a 0) := by
          rw [take_snoc_int tl a hal, elF_snoc, hel.out, Bool.true_and]
         obtain ⟨c0, hc0⟩ : ∃ c, tl.getD a 0 = c := ⟨_, rfl⟩
         rw [hc0] at hca hsn
         have HSN := Lib.hid hsn
         have hcm2 := (hb5.out.cell (p := ⟨q, 1, none⟩) (World.block_lt_of_cell? wm _ HCM.out)).trans HCM.out
         clear hsn
         obtain ⟨Z, hZ⟩ : ∃ Z, Hid (scaB c0 = Z) := ⟨_, rfl⟩
         have HEL := Lib.hid hel.out
         have H5 := Lib.hid hb5.out
         clear hb5 hel
         go_upto_region 13 with (fail)
         go_cut [75] (fun cc wx => ∃ B : Bool, cc = .bool B ∧ Hid (B = !elO k (tl.take a) c0) ∧ Hid (Below wm.heap.size wm wx))
         case first =>
          cases K0 with
          | false =>
           have hkp : decide ((0 : Int) < (k : Int)) = true := by
            have := of_decide_eq_false HK0.out
            exact decide_eq_true (by omega)
           have hkq : 0 < k := Nat.pos_of_ne_zero (of_decide_eq_false HK0.out)
           have HEO : Hid (elO k (tl.take a) c0 = Z) := by
            unfold Hid elO; rw [if_neg (of_decide_eq_false HK0.out), hZ.out]
           go_wp2_with fail
           refine (rsca_at c0 Z _ hZ).mono ?_
           rintro e w5 ⟨rfl, rfl⟩
           go_wp2_with fail
           go_meet
           exact ⟨!Z, rfl, by unfold Hid; rw [HEO.out], H5⟩
          | true =>
           have hkp : decide ((0 : Int) < (k : Int)) = false := by
            have := of_decide_eq_true HK0.out
            exact decide_eq_false (by omega)
           have hkq : ¬ 0 < k := by have := of_decide_eq_true HK0.out; omega
           have HEO : Hid (elO k (tl.take a) c0 = (decide (endI 3 (tl.take a) ≤ c0) && decide (c0 ≤ 60))) := by
            unfold Hid elO; rw [if_pos (of_decide_eq_true HK0.out)]
           have HAS : Hid (ascI 3 60 (tl.take a) = true) := by
            have := HEL.out
            unfold elF at this
            rwa [if_pos (of_decide_eq_true HK0.out)] at this
           have HG := Lib.hid (endI_ge HAS.out)
           by_cases h3 : c0 < 3
           ·have d3 : decide (c0 < 3) = true := decide_eq_true h3
            have HB : Hid (true = !elO k (tl.take a) c0) := by
             unfold Hid; rw [HEO.out]
             have := HG.out
             rw [decide_eq_false (show ¬ endI 3 (tl.take a) ≤ c0 by omega)]; rfl
            clear h3
            go_wp2_with fail
            go_meet
            exact ⟨true, rfl, HB, H5⟩
           ·have d3 : decide (c0 < 3) = false := decide_eq_false h3
            by_cases h4 : 60 < c0
            ·have d4 : decide (60 < c0) = true := decide_eq_true h4
             have HB : Hid (true = !elO k (tl.take a) c0) := by
              unfold Hid; rw [HEO.out, decide_eq_false (show ¬ c0 ≤ 60 by omega), Bool.and_false]; rfl
             clear h3 h4
             go_wp2_with fail
             go_meet
             exact ⟨true, rfl, HB, H5⟩
            ·have d4 : decide (60 < c0) = false := decide_eq_false h4
             cases a with
             | zero =>
              have HB : Hid (false = !elO k (tl.take 0) c0) := by
               unfold Hid; rw [HEO.out, decide_eq_true (show c0 ≤ 60 by omega), Bool.and_true, show endI 3 (tl.take 0) = 3 from rfl, decide_eq_true (show 3 ≤ c0 by omega)]; rfl
              clear h3 h4
              go_wp2_with fail
              go_meet
              exact ⟨false, rfl, HB, H5⟩
             | succ i =>
              have hil : i < tl.length := by omega
              obtain ⟨b3, off3, e', q1⟩ := (HVI.out.below H5.out) i hil
              injection e' with e'
              injection e' with e1 e2
              subst e1; subst e2
              have HZ : Hid (endI 3 (tl.take (i + 1)) = tl.getD i 0 + 1) := by
               unfold Hid; rw [take_snoc_int tl i hil]; exact endI_snoc _ _ _
              obtain ⟨pf, hp⟩ : ∃ s, tl.getD i 0 = s := ⟨_, rfl⟩
              rw [hp] at q1 HZ
              have hk0 : (0 : Int) < (i : Int) + 1 := by omega
              have hj0 : (0 : Int) ≤ (i : Int) := by omega
              have hj1 : (i : Int) < (nt : Int) := by omega
              have hx1 : IntKind.i64.wrap ((i : Int) + 1 - 1) = i := by rw [IntWalk.i64_in _ (by omega)]; omega
              have hx2 : IntKind.i64.wrap (i : Int) = i := IntWalk.i64_in _ (by omega)
              have HB : Hid (decide (c0 ≤ pf) = !elO k (tl.take (i + 1)) c0) := by
               unfold Hid; rw [HEO.out, HZ.out, decide_eq_true (show c0 ≤ 60 by omega), Bool.and_true]
               by_cases h : c0 ≤ pf
               ·rw [decide_eq_true h, decide_eq_false (show ¬ pf + 1 ≤ c0 by omega)]; rfl
               ·rw [decide_eq_false h, decide_eq_true (show pf + 1 ≤ c0 by omega)]; rfl
              obtain ⟨D, hD⟩ : ∃ D, decide (c0 ≤ pf) = D := ⟨_, rfl⟩
              rw [hD] at HB
              clear hp h3 h4
              cases D with
              | true =>
               go_wp2_with fail
               go_meet
               exact ⟨true, rfl, HB, H5⟩
              | false =>
               go_wp2_with fail
               go_meet
               exact ⟨false, rfl, HB, H5⟩
         case rest =>
          obtain ⟨B, rfl, hBB, hb6⟩ := hcut
          cases B
          ·have HN : Hid (elF k (tl.take (a + 1)) = true) := by
            unfold Hid; rw [HSN.out]
            have := hBB.out
            cases hv : elO k (tl.take a) c0 with
            | true => rfl
            | false => rw [hv] at this; cases this
           clear hBB
           go_wp2
           go_roundw
           case rel => exact ⟨a + 1, by omega, by go_num, HN, hb6⟩
           case measure => simp [intOf]; omega
          ·have HF : Hid (r4 T = false) := by
            unfold Hid
            apply HBE.out
            apply elF_take (a + 1)
            rw [HSN.out]
            have := hBB.out
            cases hv : elO k (tl.take a) c0 with
            | true => rw [hv] at this; cases this
            | false => rfl
           clear hBB
           go_wp2
           go_ret
           rw [HF.out]
           exact ⟨rfl, (HBW.out.step (HBa.out.trans (hb6.out.mono HBa.out.size))).bel⟩
        ·obtain rfl : a = nt := by omega
         have HN : Hid ((l.take (j + 1)).all (seqF k) = true) := by
          have := hel.out
          rw [List.take_of_length_le (Nat.le_of_eq HNT.out)] at this
          exact HGE.out this
         go_wp2
         go_roundw
         case rel => exact ⟨j + 1, by omega, by go_num, HN, Lib.hid (HBa.out.trans (hb5.out.mono HBa.out.size))⟩
         case measure => simp [intOf]; omega
    ·obtain rfl : j = n := by omega
     have HT : Hid (∀ i, i < k + 1 → lstF i ((mpsT T).getD i []) = true) := by
      intro i hi
      by_cases hik : i < k
      ·exact hall.out i hik
      ·obtain rfl : i = k := by omega
       have := hok.out
       rw [List.take_of_length_le (Nat.le_of_eq HLN.out)] at this
       rw [HL4.out]; exact this
     go_wp2
     go_roundw
     case rel => exact ⟨k + 1, by omega, by go_num, HT, Lib.hid (hb1.out.trans (hb4.out.mono hb1.out.size))⟩
     case measure => simp [intOf]; omega
  ·obtain rfl : k = 4 := by omega
   have HR : Hid (r4 T = true) := by unfold Hid; rw [r4_lst]; exact mp_all lstF hall.out
   have HBB := Lib.hid (HE1.out.step hb1.out)
   clear hall
   go_wp2
   go_ret
   rw [HR.out]
   exact ⟨rfl, HBB.out.bel⟩
end Go.Proofs.YtopaojjodkoidaaGreatDoor
