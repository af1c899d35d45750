/-
  table: rules 3 and 4.
-/
import Derived.Test.YtopaojjodkoidaaGreatDoorSSmTabH
set_option linter.unusedSimpArgs false
set_option linter.unusedVariables false
namespace Go.Proofs.YtopaojjodkoidaaGreatDoor
open Go.RowKit
theorem valOut_any (s : Sp) (g1 g2 : Nat) (lo hi : Int) (w : World) (h1 : w.cell? ⟨g1, 0, none⟩ = some (.int .i64 lo)) (h2 : w.cell? ⟨g2, 0, none⟩ = some (.int .i64 hi)) :
 Calls Tryz.prog 179 #[spV s, .pointer (some ⟨g1, 0, none⟩), .pointer (some ⟨g2, 0, none⟩)] w (Gives (.bool (decide (s.2.2 < lo) || decide (hi < s.2.2))) w) := by
 obtain ⟨f, t, v⟩ := s
 have l1 := World.block_lt_of_cell? w _ h1
 have l2 := World.block_lt_of_cell? w _ h2
 have H1 := Lib.hid ((World.cell?_alloc_lt w (.cells #[.int .i64 f, .int .i64 t, .int .i64 v] 45) ⟨g1, 0, none⟩ l1).trans h1)
 have H2 := Lib.hid ((World.cell?_alloc_lt w (.cells #[.int .i64 f, .int .i64 t, .int .i64 v] 45) ⟨g2, 0, none⟩ l2).trans h2)
 clear h1 h2
 obtain ⟨B, hB⟩ : ∃ B, (decide (v < lo) || decide (hi < v)) = B := ⟨_, rfl⟩
 simp only [spV]
 rw [hB]
 by_cases h : v < lo
 ·have HC : Hid (B = true) := by unfold Hid; rw [← hB]; simp [h]
  clear hB
  go_enter Tryz.func179, Tryz.ntmps179
  have c1 := H1.out
  have c2 := H2.out
  go_wp2
  go_ret
  exact ⟨by rw [HC.out]; rfl, (Below.refl _ _).alloc (Nat.le_refl _) _⟩
 ·have HC : Hid (B = true ↔ hi < v) := by unfold Hid; rw [← hB]; simp [h]
  have hd : decide (v < lo) = false := decide_eq_false h
  clear h hB
  go_enter Tryz.func179, Tryz.ntmps179
  have c1 := H1.out
  have c2 := H2.out
  go_wp2
  all_goals
   go_ret
   exact ⟨iff_ret (by rw [HC.out]; first | (simp; done) | (simp; omega)), (Below.refl _ _).alloc (Nat.le_refl _) _⟩
theorem entersVal : ∀ args w, (callFunc 179 args).run Tryz.prog w = .ok (.enter 179 args) w := enters_of Tryz.func179 (by kernel_rfl) rfl
theorem testVal (g1 g2 : Nat) (lo hi : Int) (w : World) (h1 : w.cell? ⟨g1, 0, none⟩ = some (.int .i64 lo)) (h2 : w.cell? ⟨g2, 0, none⟩ = some (.int .i64 hi)) :
 TestS 179 #[.pointer (some ⟨g1, 0, none⟩), .pointer (some ⟨g2, 0, none⟩)] (fun s => decide (s.2.2 < lo) || decide (hi < s.2.2)) w := fun s W hW =>
 valOut_any s g1 g2 lo hi W ((hW.cell (p := ⟨g1, 0, none⟩) (World.block_lt_of_cell? w _ h1)).trans h1) ((hW.cell (p := ⟨g2, 0, none⟩) (World.block_lt_of_cell? w _ h2)).trans h2)
theorem valOk_not (lo hi : Int) (l : List Sp) : valOk lo hi l = !l.any fun s => decide (s.2.2 < lo) || decide (hi < s.2.2) := by
 rw [valOk, Bool.eq_iff_iff]
 simp only [List.all_eq_true, Bool.and_eq_true, decide_eq_true_eq, Bool.not_eq_true', List.any_eq_false, Bool.or_eq_true, not_or, Int.not_lt]
set_option maxHeartbeats 1000000 in
theorem valuesFrom_at (v0 : Value) (l : List Sp) (lo hi : Int) (B : Bool) (w : World) (hv : SpV w v0 l) (hB : Hid (valOk lo hi l = B)) :
 Calls Tryz.prog 160 #[v0, .int .i64 lo, .int .i64 hi] w (Gives (.bool B) w) := by
 have hb0 : Below w.heap.size w ((w.alloc (.cells #[.int .i64 lo] 3)).alloc (.cells #[.int .i64 hi] 3)) := ((Below.refl _ _).alloc (Nat.le_refl _) _).alloc (by simp) _
 have HV := Lib.hid (hv.below hb0)
 have HB0 := Lib.hid hb0
 have c1 : ((w.alloc (.cells #[.int .i64 lo] 3)).alloc (.cells #[.int .i64 hi] 3)).cell? ⟨w.heap.size, 0, none⟩ = some (.int .i64 lo) := by simp
 have c2 : ((w.alloc (.cells #[.int .i64 lo] 3)).alloc (.cells #[.int .i64 hi] 3)).cell? ⟨w.heap.size + 1, 0, none⟩ = some (.int .i64 hi) := by simp
 have HT := Lib.hid (testVal _ _ lo hi _ c1 c2)
 have hq : l.any (fun s => decide (s.2.2 < lo) || decide (hi < s.2.2)) = !B := by rw [← hB.out, valOk_not]; simp
 have HQ := Lib.hid hq
 clear hb0 hv c1 c2 hq
 go_enter Tryz.func160, Tryz.ntmps160
 go_wp2_with fail
 refine (conS_any v0 l _ _ _ (!B) _ HV.out HT.out entersVal HQ).mono ?_
 rintro e w1 ⟨rfl, hb⟩
 have HB1 := Lib.hid (HB0.out.trans (hb.mono HB0.out.size))
 clear hb
 go_wp2
 go_ret
 exact ⟨by cases B <;> rfl, HB1.out⟩
set_option maxHeartbeats 4000000 in
theorem values_any (x : TV) (T : Tb) (w : World) (hx : TabV w x T) :
 Calls Tryz.prog 131 #[x.agg] w (Gives (.bool (r3 T)) w) := by
 have HE := Lib.hid (Env.new hx)
 obtain ⟨B1, hB1⟩ : ∃ B, Hid (valOk 0 8 T.cat = B) := ⟨_, rfl⟩
 obtain ⟨B2, hB2⟩ : ∃ B, Hid (valOk 1 254 T.cls = B) := ⟨_, rfl⟩
 obtain ⟨B3, hB3⟩ : ∃ B, Hid (valOk 0 5 T.joi = B) := ⟨_, rfl⟩
 obtain ⟨B4, hB4⟩ : ∃ B, Hid (valOk 0 11 T.bid = B) := ⟨_, rfl⟩
 obtain ⟨B5, hB5⟩ : ∃ B, Hid (valOk 0 60 T.scr = B) := ⟨_, rfl⟩
 obtain ⟨B6, hB6⟩ : ∃ B, Hid (valOk 0 4 T.sta = B) := ⟨_, rfl⟩
 obtain ⟨B7, hB7⟩ : ∃ B, Hid (valOk 1 1 T.ign = B) := ⟨_, rfl⟩
 have HRR : Hid (r3 T = (B1 && (B2 && (B3 && (B4 && (B5 && (B6 && B7))))))) := by
  unfold Hid r3; rw [hB1.out, hB2.out, hB3.out, hB4.out, hB5.out, hB6.out, hB7.out]
 clear hx
 simp only [TV.agg]
 go_enter Tryz.func131, Tryz.ntmps131
 go_wp2_with fail
 refine (valuesFrom_at x.a0 T.cat 0 8 B1 _ HE.out.tab.cat hB1).mono ?_
 rintro e w1 ⟨rfl, hb⟩
 replace HE := Lib.hid (HE.out.step hb)
 clear hb
 cases B1 with
 | false => go_wp2; go_ret; exact ⟨by rw [HRR.out]; rfl, HE.out.bel⟩
 | true =>
  obtain ⟨⟨_, k, _, _, _, _⟩, _⟩ := HE.out.box
  go_wp2_with fail
  refine (valuesFrom_at x.a1 T.cls 1 254 B2 _ HE.out.tab.cls hB2).mono ?_
  rintro e w2 ⟨rfl, hb⟩
  replace HE := Lib.hid (HE.out.step hb)
  clear hb k
  cases B2 with
  | false => go_wp2; go_ret; exact ⟨by rw [HRR.out]; rfl, HE.out.bel⟩
  | true =>
   obtain ⟨⟨_, _, k, _, _, _⟩, _⟩ := HE.out.box
   go_wp2_with fail
   refine (valuesFrom_at x.a2 T.joi 0 5 B3 _ HE.out.tab.joi hB3).mono ?_
   rintro e w3 ⟨rfl, hb⟩
   replace HE := Lib.hid (HE.out.step hb)
   clear hb k
   cases B3 with
   | false => go_wp2; go_ret; exact ⟨by rw [HRR.out]; rfl, HE.out.bel⟩
   | true =>
    obtain ⟨⟨_, _, _, k, _, _⟩, _⟩ := HE.out.box
    go_wp2_with fail
    refine (valuesFrom_at x.a3 T.bid 0 11 B4 _ HE.out.tab.bid hB4).mono ?_
    rintro e w4 ⟨rfl, hb⟩
    replace HE := Lib.hid (HE.out.step hb)
    clear hb k
    cases B4 with
    | false => go_wp2; go_ret; exact ⟨by rw [HRR.out]; rfl, HE.out.bel⟩
    | true =>
     obtain ⟨⟨_, _, _, _, k, _⟩, _⟩ := HE.out.box
     go_wp2_with fail
     refine (valuesFrom_at x.a4 T.scr 0 60 B5 _ HE.out.tab.scr hB5).mono ?_
     rintro e w5 ⟨rfl, hb⟩
     replace HE := Lib.hid (HE.out.step hb)
     clear hb k
     cases B5 with
     | false => go_wp2; go_ret; exact ⟨by rw [HRR.out]; rfl, HE.out.bel⟩
     | true =>
      obtain ⟨⟨_, _, _, _, _, k⟩, _⟩ := HE.out.box
      go_wp2_with fail
      refine (valuesFrom_at x.a5 T.sta 0 4 B6 _ HE.out.tab.sta hB6).mono ?_
      rintro e w6 ⟨rfl, hb⟩
      replace HE := Lib.hid (HE.out.step hb)
      clear hb k
      cases B6 with
      | false => go_wp2; go_ret; exact ⟨by rw [HRR.out]; rfl, HE.out.bel⟩
      | true =>
       obtain ⟨_, ⟨k, _, _, _, _, _⟩⟩ := HE.out.box
       go_wp2_with fail
       refine (valuesFrom_at x.a6 T.ign 1 1 B7 _ HE.out.tab.ign hB7).mono ?_
       rintro e w7 ⟨rfl, hb⟩
       replace HE := Lib.hid (HE.out.step hb)
       clear hb k
       go_wp2
       go_ret
       exact ⟨by rw [HRR.out]; rfl, HE.out.bel⟩
def TestL (g : Nat) (p : List Int → Bool) (w : World) : Prop :=
 ∀ (l : List Int) (v : Value) (W : World), Below w.heap.size w W → InV W v l → Calls Tryz.prog g #[v] W (Gives (.bool (p l)) W)
def sizOk (m : Mp) : Bool := decide (1 ≤ m.2.length) && decide (m.2.length ≤ 18)
set_option maxRecDepth 100000 in
set_option maxHeartbeats 4000000 in
theorem seqs_any (v0 : Value) (l : List Mp) (g : Nat) (q : List Int → Bool) (w : World) (hv : MpV w v0 l) (hq : TestL g q w) (eg : ∀ args w, (callFunc g args).run Tryz.prog w = .ok (.enter g args) w) :
 Calls Tryz.prog 161 #[v0, .func (.func g) #[] #[]] w (Gives (.bool (l.all fun m => sizOk m && q m.2)) w) := by
 obtain ⟨p, cp, rfl, hin, hn⟩ := hv
 obtain ⟨n, hl⟩ : ∃ n, l.length = n := ⟨_, rfl⟩
 rw [hl] at hn ⊢
 have HI := Lib.hid hin
 have HL := Lib.hid hl
 have HQ := Lib.hid hq
 clear hin hl hq
 go_enter Tryz.func161, Tryz.ntmps161
 go_wp2
 go_loopw [9] (fun i wr => ∃ k : Nat, k ≤ n ∧ i = .int .i64 k ∧ Hid ((l.take k).all (fun m => sizOk m && q m.2) = true) ∧ Hid (Below w.heap.size w wr)) (fun i _ => n - (intOf i).toNat)
 case atStart => exact ⟨0, Nat.zero_le _, rfl, by simp [Hid], Below.refl _ _⟩
 case round =>
  obtain ⟨k, hk, rfl, hall, hb⟩ := hrel
  by_cases hlt : k < n
  ·have hkl : k < l.length := by rw [HL.out]; exact hlt
   obtain ⟨b, off, v, rfl, hc1, hc2, qa, cq, rfl, hi2, hm2⟩ := (HI.out.below hb.out) k hkl
   have hsn := all_take_snoc (fun m : Mp => sizOk m && q m.2) l k mp0 hkl
   rw [hall.out, Bool.true_and] at hsn
   have hno : sizOk (l.getD k mp0) = false ∨ q (l.getD k mp0).2 = false → l.all (fun m => sizOk m && q m.2) = false := fun h => by
    refine all_of_take _ l (k + 1) ?_
    rw [hsn]
    rcases h with h | h
    ·rw [h]; rfl
    ·rw [h, Bool.and_false]
   have hsz : sizOk (l.getD k mp0) = (decide (1 ≤ (l.getD k mp0).2.length) && decide ((l.getD k mp0).2.length ≤ 18)) := rfl
   obtain ⟨⟨f, y⟩, hs⟩ : ∃ s, l.getD k mp0 = s := ⟨_, rfl⟩
   rw [hs] at hc1 hc2 hsn hno hsz hi2 hm2
   simp only at hc1 hc2 hsn hno hsz hi2 hm2
   obtain ⟨m, hm⟩ : ∃ m, y.length = m := ⟨_, rfl⟩
   rw [hm] at hc2 hsz hm2
   have hbb := hb.out.alloc hb.out.size (.cells #[.int .i64 f, .slice qa m cq] 47)
   have hiv : InV (wr.alloc (.cells #[.int .i64 f, .slice qa m cq] 47)) (.slice qa m cq) y := ⟨qa, cq, by rw [hm], RowIn.alloc hi2 _, by rw [hm]; exact hm2⟩
   have HSN := Lib.hid hsn
   have HNO := Lib.hid hno
   have HBB := Lib.hid hbb
   have HIV := Lib.hid hiv
   have HSZ := Lib.hid hsz
   clear hs hsn hno hm hi2 hbb hiv hsz
   by_cases h1 : m < 1
   ·have d1 : decide ((m : Int) < 1) = true := decide_eq_true (by omega)
    have HF := Lib.hid (HNO.out (.inl (by rw [HSZ.out]; simp; omega)))
    go_wp2
    go_ret
    rw [HF.out]
    exact ⟨rfl, HBB.out⟩
   ·have d1 : decide ((m : Int) < 1) = false := decide_eq_false (by omega)
    by_cases h2 : 18 < m
    ·have d2 : decide ((18 : Int) < (m : Int)) = true := decide_eq_true (by omega)
     have HF := Lib.hid (HNO.out (.inl (by rw [HSZ.out]; simp; omega)))
     go_wp2
     go_ret
     rw [HF.out]
     exact ⟨rfl, HBB.out⟩
    ·have d2 : decide ((18 : Int) < (m : Int)) = false := decide_eq_false (by omega)
     obtain ⟨B, hB⟩ : ∃ B, Hid (q y = B) := ⟨_, rfl⟩
     have hcall := HQ.out y _ _ HBB.out HIV.out
     rw [hB.out] at hcall
     have HCALL := Lib.hid hcall
     have HS1 : Hid (sizOk (f, y) = true) := by unfold Hid; rw [HSZ.out]; simp; omega
     clear hcall
     cases B with
     | false =>
      have HF := Lib.hid (HNO.out (.inr hB.out))
      clear h1 h2
      go_wp2_with (go_at_fn g; refine HCALL.out.mono ?_; rintro e w2 ⟨rfl, hb2⟩; have HB2 := Lib.hid (HBB.out.trans (hb2.mono HBB.out.size)); clear hb2)
      go_ret
      rw [HF.out]
      exact ⟨rfl, HB2.out⟩
     | true =>
      have HT : Hid ((l.take (k + 1)).all (fun m => sizOk m && q m.2) = true) := by unfold Hid; rw [HSN.out, HS1.out, hB.out]; rfl
      clear h1 h2
      go_wp2_with (go_at_fn g; refine HCALL.out.mono ?_; rintro e w2 ⟨rfl, hb2⟩; have HB2 := Lib.hid (HBB.out.trans (hb2.mono HBB.out.size)); clear hb2)
      go_roundw
      case rel => exact ⟨k + 1, by omega, by go_num, HT, HB2⟩
      case measure => simp [intOf]; omega
  ·obtain rfl : k = n := by omega
   have HF : Hid (l.all (fun m => sizOk m && q m.2) = true) := by
    have := hall.out
    rwa [List.take_of_length_le (Nat.le_of_eq HL.out)] at this
   go_wp2
   go_ret
   rw [HF.out]
   exact ⟨rfl, hb.out⟩
end Go.Proofs.YtopaojjodkoidaaGreatDoor
