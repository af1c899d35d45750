/- The references of table: value, find, Excluded, Class, Ignor -/
import Derived.Test.YtopaojjodkoidaaGreatDoorSSmTabRC
import Derived.Test.YtopaojjodkoidaaGreatDoorSSmPkE
import Derived.Test.YtopaojjodkoidaaGreatDoorSSmTabL
set_option linter.unusedSimpArgs false
set_option linter.unusedVariables false
namespace Go.Proofs.YtopaojjodkoidaaGreatDoor
open Go.RowKit
theorem val_at {l : List Sp} {c : Int} {k : Nat} (hk : k < l.length) (h : val (l.take k) c = none) : val (l.take (k + 1)) c = if (l.getD k sp0).1 ≤ c ∧ c ≤ (l.getD k sp0).2.1 then some (l.getD k sp0).2.2 else none := by
 rw [take_snoc_sp l k hk, val_append, h, val_cons]; rfl
theorem val_of_take {l : List Sp} {c v : Int} (k : Nat) (h : val (l.take k) c = some v) : val l c = some v := by
 rw [← List.take_append_drop k l, val_append, h]; rfl
theorem find_at {l : List Mp} {c : Int} {k : Nat} (hk : k < l.length) (h : hasM (l.take k) c = false) (hc : (l.getD k mp0).1 = c) : findM l c = (l.getD k mp0).2 := by
 induction l generalizing k with
 | nil => simp at hk
 | cons m r ih =>
  cases k with
  | zero => simp only [List.getD_cons_zero] at hc ⊢; rw [findM, if_pos hc]
  | succ k =>
   simp only [List.getD_cons_succ] at hc ⊢
   simp only [List.take_succ_cons, hasM, List.any_cons, Bool.or_eq_false_iff, decide_eq_false_iff_not] at h
   rw [findM, if_neg h.1]
   exact ih (by simpa using hk) h.2 hc
theorem has_snoc {l : List Mp} {c : Int} {k : Nat} (hk : k < l.length) (h : hasM (l.take k) c = false) (hc : (l.getD k mp0).1 ≠ c) : hasM (l.take (k + 1)) c = false := by
 rw [take_snoc_mp l k hk]
 simp only [hasM, List.any_append, List.any_cons, List.any_nil, Bool.or_false, Bool.or_eq_false_iff] at h ⊢
 exact ⟨h, decide_eq_false hc⟩
theorem val_res {l : List Sp} {c : Int} (h : spOk l = true) (hc : resB c = true) : val l c = none := by
 cases hv : val l c with
 | none => rfl
 | some v =>
  obtain ⟨s, hs, h1, h2, _⟩ := val_mem hv
  simp only [spOk, Bool.and_eq_true] at h
  have := List.all_eq_true.1 h.2 s hs
  have h3 : resF s.1 s.2.1 = true := by
   rw [resF_iff]; rw [resB_iff] at hc; omega
  rw [h3] at this; cases this
theorem rsta_eq {T : Tb} (h : spOk T.sta = true) (c : Int) : staT T c = if latB c || decide (c = 46) || sylB c then 1 else if uppB c then 3 else (val T.sta c).getD 0 := by
 unfold staT
 by_cases hc : resB c = true
 ·rw [val_res h hc]; rfl
 ·have h1 : latB c = false := by rw [← Bool.not_eq_true, latB_iff]; rw [resB_iff] at hc; omega
  have h2 : sylB c = false := by rw [← Bool.not_eq_true, sylB_iff]; rw [resB_iff] at hc; omega
  have h3 : uppB c = false := by rw [← Bool.not_eq_true, uppB_iff]; rw [resB_iff] at hc; omega
  have h4 : ¬ c = 46 := by rw [resB_iff] at hc; omega
  simp only [fixT, h1, h2, h3, decide_eq_false h4, Bool.or_self, if_neg Bool.false_ne_true]
set_option maxHeartbeats 4000000 in
theorem rvalue_at (p : Option Addr) (n cp : Nat) (l : List Sp) (c z : Int) (w : World) (hl : Hid (l.length = n)) (hn : n ≤ 17592186043904) (hin : SpIn w p l) (hz : Hid ((val l c).getD 0 = z)) :
 Calls Tryz.prog 55 #[.slice p n cp, .int .i64 c] w (Gives (.int .i64 z) w) := by
 have HI := Lib.hid hin
 clear hin
 go_enter Tryz.func55, Tryz.ntmps55
 go_wp2
 go_loopw [9] (fun i wr => ∃ k : Nat, k ≤ n ∧ i = .int .i64 k ∧ Hid (val (l.take k) c = none) ∧ Hid (Below w.heap.size w wr)) (fun i _ => n - (intOf i).toNat)
 case atStart => exact ⟨0, Nat.zero_le _, rfl, rfl, Below.refl _ _⟩
 case round =>
  obtain ⟨k, hk, rfl, hno, hb⟩ := hrel
  by_cases hlt : k < n
  ·have hkl : k < l.length := by rw [hl.out]; exact hlt
   obtain ⟨b, off, rfl, hc1, hc2, hc3⟩ := (HI.out.below hb.out) k hkl
   have hv := val_at hkl hno.out
   obtain ⟨⟨f, t, v⟩, hs⟩ : ∃ s, l.getD k sp0 = s := ⟨_, rfl⟩
   rw [hs] at hc1 hc2 hc3 hv
   simp only at hv
   have HV := Lib.hid hv
   have HBa := Lib.hid (hb.out.alloc hb.out.size (.cells #[.int .i64 f, .int .i64 t, .int .i64 v] 45))
   clear hs hv
   by_cases h1 : f ≤ c
   ·have d1 : decide (f ≤ c) = true := decide_eq_true h1
    by_cases h2 : c ≤ t
    ·have d2 : decide (c ≤ t) = true := decide_eq_true h2
     have HR : Hid (z = v) := by
      unfold Hid
      rw [← hz.out, val_of_take (k + 1) (by rw [HV.out, if_pos ⟨h1, h2⟩])]; rfl
     clear h1 h2
     go_wp2
     go_ret
     rw [HR.out]
     exact ⟨rfl, HBa.out⟩
    ·have d2 : decide (c ≤ t) = false := decide_eq_false h2
     have HN : Hid (val (l.take (k + 1)) c = none) := by unfold Hid; rw [HV.out, if_neg (fun h => h2 h.2)]
     clear h1 h2
     go_wp2
     go_roundw
     case rel => exact ⟨k + 1, by omega, by go_num, HN, HBa⟩
     case measure => simp [intOf]; omega
   ·have d1 : decide (f ≤ c) = false := decide_eq_false h1
    have HN : Hid (val (l.take (k + 1)) c = none) := by unfold Hid; rw [HV.out, if_neg (fun h => h1 h.1)]
    clear h1
    go_wp2
    go_roundw
    case rel => exact ⟨k + 1, by omega, by go_num, HN, HBa⟩
    case measure => simp [intOf]; omega
  ·obtain rfl : k = n := by omega
   have HR : Hid (z = 0) := by
    have := hno.out
    rw [List.take_of_length_le (Nat.le_of_eq hl.out)] at this
    unfold Hid; rw [← hz.out, this]; rfl
   go_wp2
   go_ret
   rw [HR.out]
   exact ⟨rfl, hb.out⟩
def GivesL (fl : List Int) (w : World) (e : Ending) (w' : World) : Prop :=
 ∃ p n cp, e = .returned (.slice p n cp) ∧ fl.length = n ∧ n ≤ 17592186043904 ∧ IntsIn w' p fl ∧ Below w.heap.size w w'
set_option maxHeartbeats 4000000 in
theorem rfind_at (v : Value) (l : List Mp) (c : Int) (fl : List Int) (w : World) (hv : MpV w v l) (hz : Hid (findM l c = fl)) :
 Calls Tryz.prog 109 #[v, .int .i64 c] w (GivesL fl w) := by
 obtain ⟨p, cp, rfl, hin, hn⟩ := hv
 obtain ⟨n, hln⟩ : ∃ n, l.length = n := ⟨_, rfl⟩
 rw [hln] at hn ⊢
 have HI := Lib.hid hin
 have hl := Lib.hid hln
 clear hin hln
 go_enter Tryz.func109, Tryz.ntmps109
 go_wp2
 go_loopw [9] (fun i wr => ∃ k : Nat, k ≤ n ∧ i = .int .i64 k ∧ Hid (hasM (l.take k) c = false) ∧ Hid (Below w.heap.size w wr)) (fun i _ => n - (intOf i).toNat)
 case atStart => exact ⟨0, Nat.zero_le _, rfl, rfl, Below.refl _ _⟩
 case round =>
  obtain ⟨k, hk, rfl, hno, hb⟩ := hrel
  by_cases hlt : k < n
  ·have hkl : k < l.length := by rw [hl.out]; exact hlt
   obtain ⟨b, off, v, rfl, hc1, hc2, hv⟩ := (HI.out.below hb.out) k hkl
   have hfa := Lib.hid (find_at hkl hno.out)
   have hfs := Lib.hid (has_snoc hkl hno.out)
   obtain ⟨⟨f, tl⟩, hs⟩ : ∃ s, l.getD k mp0 = s := ⟨_, rfl⟩
   rw [hs] at hc1 hv hfa hfs
   obtain ⟨pv, cv, rfl, hvi, hvl⟩ := hv
   obtain ⟨nt, hnt⟩ : ∃ n, tl.length = n := ⟨_, rfl⟩
   simp only at hc1 hc2 hvl hvi hfa hfs
   rw [hnt] at hc2 hvl
   have HNT := Lib.hid hnt
   have HVI := Lib.hid (hvi.below ((Below.refl _ _).alloc (Nat.le_refl _) (.cells #[.int .i64 f, .slice pv nt cv] 47)))
   have HBa := Lib.hid (hb.out.alloc hb.out.size (.cells #[.int .i64 f, .slice pv nt cv] 47))
   have HVL := Lib.hid hvl
   clear hs hnt hvi hvl
   by_cases h1 : f = c
   ·have d1 : (f == c) = true := by simp [h1]
    have HR : Hid (fl = tl) := by unfold Hid; rw [← hz.out]; exact hfa.out h1
    clear h1
    go_wp2
    go_ret
    rw [HR.out]
    exact ⟨pv, nt, cv, rfl, HNT.out, HVL.out, HVI.out, HBa.out⟩
   ·have d1 : (f == c) = false := by simp [h1]
    have HN : Hid (hasM (l.take (k + 1)) c = false) := hfs.out h1
    clear h1
    go_wp2
    go_roundw
    case rel => exact ⟨k + 1, by omega, by go_num, HN, HBa⟩
    case measure => simp [intOf]; omega
  ·obtain rfl : k = n := by omega
   have HR : Hid (fl = []) := by
    have := hno.out
    rw [List.take_of_length_le (Nat.le_of_eq hl.out)] at this
    unfold Hid; rw [← hz.out, findM_nil this]
   go_wp2
   go_ret
   rw [HR.out]
   exact ⟨none, 0, 0, rfl, rfl, by omega, fun k hk => absurd hk (Nat.not_lt_zero _), hb.out⟩
set_option maxHeartbeats 4000000 in
theorem rexcl_at (x : TV) (T : Tb) (c : Int) (B : Bool) (w : World) (hx : TabV w x T) (hB : Hid (excT T c = B)) :
 Calls Tryz.prog 110 #[x.agg, .int .i64 c] w (Gives (.bool B) w) := by
 obtain ⟨a0, a1, a2, a3, a4, a5, a6, a7, a8, a9, a10, a11⟩ := x
 obtain ⟨p, cp, he, hin, hn⟩ := hx.exc
 obtain ⟨n, hln⟩ : ∃ n, T.exc.length = n := ⟨_, rfl⟩
 rw [hln] at he hn
 simp only at he
 subst he
 have HE := Lib.hid (Env.new hx)
 have HI := Lib.hid (hin.below HE.out.bel)
 have hl := Lib.hid hln
 have hbx := HE.out.box
 simp only [BoxT] at hbx
 obtain ⟨⟨_, _, _, _, _, _⟩, ⟨_, _, _, _, k10, _⟩⟩ := hbx
 clear hin hln hx
 simp only [TV.agg]
 go_enter Tryz.func110, Tryz.ntmps110
 go_wp2
 go_loop [6, 10] (fun _ i => ∃ k : Nat, k ≤ n ∧ i = .int .i64 k ∧ Hid ((T.exc.take k).contains c = false)) (fun _ i => n - (intOf i).toNat)
 case atStart => exact ⟨0, Nat.zero_le _, rfl, rfl⟩
 case round =>
  obtain ⟨k, hk, rfl, hno⟩ := hrel
  by_cases hlt : k < n
  ·have hkl : k < T.exc.length := by rw [hl.out]; exact hlt
   obtain ⟨b, off, rfl, hc1⟩ := HI.out k hkl
   have hsn : (T.exc.take (k + 1)).contains c = (c == T.exc.getD k 0) := by
    rw [take_snoc_int T.exc k hkl, List.contains_append, hno.out, Bool.false_or, List.contains_cons, List.contains_nil, Bool.or_false]
   obtain ⟨f, hs⟩ : ∃ s, T.exc.getD k 0 = s := ⟨_, rfl⟩
   rw [hs] at hc1 hsn
   have HS := Lib.hid hsn
   clear hs hsn
   by_cases h1 : f = c
   ·have d1 : (f == c) = true := by simp [h1]
    have HR : Hid (B = true) := by
     unfold Hid; rw [← hB.out, excT, List.contains_iff_mem]
     have := HS.out
     rw [show (c == f) = true by simp [h1], List.contains_iff_mem] at this
     exact List.mem_of_mem_take this
    clear h1
    go_wp2
    go_ret
    rw [HR.out]
    exact ⟨rfl, HE.out.bel⟩
   ·have d1 : (f == c) = false := by simp [h1]
    have HN : Hid ((T.exc.take (k + 1)).contains c = false) := by unfold Hid; rw [HS.out]; simp; omega
    clear h1
    go_wp2
    go_round
    case rel => exact ⟨k + 1, by omega, by go_num, HN⟩
    case measure => simp [intOf]; omega
  ·obtain rfl : k = n := by omega
   have HR : Hid (B = false) := by
    have := hno.out
    rw [List.take_of_length_le (Nat.le_of_eq hl.out)] at this
    unfold Hid; rw [← hB.out]; exact this
   go_wp2
   go_ret
   rw [HR.out]
   exact ⟨rfl, HE.out.bel⟩
theorem rvalue_sp (v : Value) (l : List Sp) (c z : Int) (w : World) (hv : SpV w v l) (hz : Hid ((val l c).getD 0 = z)) :
 Calls Tryz.prog 55 #[v, .int .i64 c] w (Gives (.int .i64 z) w) := by
 obtain ⟨p, cp, rfl, hin, hn⟩ := hv
 exact rvalue_at p _ cp l c z w rfl hn hin hz
set_option maxHeartbeats 2000000 in
theorem rclass_at (x : TV) (T : Tb) (c z : Int) (w : World) (hx : TabV w x T) (hz : Hid (clsT T c = z)) :
 Calls Tryz.prog 49 #[x.agg, .int .i64 c] w (Gives (.int .i64 z) w) := by
 have HE := Lib.hid (Env.new hx)
 have k := HE.out.at1
 clear hx
 simp only [TV.agg]
 go_enter Tryz.func49, Tryz.ntmps49
 go_wp2_with fail
 refine (rvalue_sp x.a1 T.cls c z _ HE.out.tab.cls hz).mono ?_
 rintro e w1 ⟨rfl, hb⟩
 have HB := Lib.hid (HE.out.step hb)
 clear hb k
 go_wp2
 go_ret
 exact ⟨rfl, HB.out.bel⟩
set_option maxHeartbeats 2000000 in
theorem rign_at (x : TV) (T : Tb) (c : Int) (B : Bool) (w : World) (hx : TabV w x T) (hv : valOk 1 1 T.ign = true) (hz : Hid (ignT T c = B)) :
 Calls Tryz.prog 56 #[x.agg, .int .i64 c] w (Gives (.bool B) w) := by
 have HE := Lib.hid (Env.new hx)
 have k := HE.out.at6
 obtain ⟨z, hzz⟩ : ∃ z, Hid ((val T.ign c).getD 0 = z) := ⟨_, rfl⟩
 have HB0 : Hid ((z == 1) = B) := by
  unfold Hid
  rw [← hzz.out, ← hz.out, ignT]
  cases hval : val T.ign c with
  | none => rfl
  | some v =>
   obtain ⟨s, hs, _, _, h3⟩ := val_mem hval
   have := List.all_eq_true.1 hv s hs
   simp only [Bool.and_eq_true, decide_eq_true_eq] at this
   have : v = 1 := by omega
   subst this; rfl
 clear hx hv
 simp only [TV.agg]
 go_enter Tryz.func56, Tryz.ntmps56
 go_wp2_with fail
 refine (rvalue_sp x.a6 T.ign c z _ HE.out.tab.ign hzz).mono ?_
 rintro e w1 ⟨rfl, hb⟩
 have HB := Lib.hid (HE.out.step hb)
 clear hb k
 go_wp2
 go_ret
 exact ⟨by rw [HB0.out]; rfl, HB.out.bel⟩
theorem rsyl_at (c : Int) (B : Bool) (w : World) (hB : Hid (sylB c = B)) : Calls Tryz.prog 53 #[.int .i64 c] w fun e w' => e = .returned (.bool B) ∧ w = w' := hB.out ▸ rsyl_any c w
theorem rjam_at (c : Int) (B : Bool) (w : World) (hB : Hid (jamB c = B)) : Calls Tryz.prog 54 #[.int .i64 c] w fun e w' => e = .returned (.bool B) ∧ w = w' := hB.out ▸ rjam_any c w
theorem rlat_at (c : Int) (B : Bool) (w : World) (hB : Hid (latB c = B)) : Calls Tryz.prog 71 #[.int .i64 c] w fun e w' => e = .returned (.bool B) ∧ w = w' := hB.out ▸ rlat_any c w
set_option maxHeartbeats 4000000 in
theorem rstatus_at (x : TV) (T : Tb) (c z : Int) (w : World) (hx : TabV w x T) (hs : spOk T.sta = true) (hz : Hid (staT T c = z)) :
 Calls Tryz.prog 44 #[x.agg, .int .i64 c] w (Gives (.int .i64 z) w) := by
 have HE := Lib.hid (Env.new hx)
 have k := HE.out.at5
 have hq := rsta_eq hs c
 rw [hz.out] at hq
 obtain ⟨L, hL⟩ : ∃ z, Hid (latB c = z) := ⟨_, rfl⟩
 obtain ⟨S, hS⟩ : ∃ z, Hid (sylB c = z) := ⟨_, rfl⟩
 obtain ⟨D, hD⟩ : ∃ z, (c == 46) = z := ⟨_, rfl⟩
 have hDD : decide (c = 46) = D := hD
 rw [hL.out, hS.out, hDD] at hq
 have HQ := Lib.hid hq
 clear hx hs hq hDD
 simp only [TV.agg]
 cases L with
 | true =>
  have HR : Hid (z = 1) := HQ.out
  go_enter Tryz.func44, Tryz.ntmps44
  go_wp2_with fail
  refine (rlat_at c true _ hL).mono ?_
  rintro e w5 ⟨rfl, rfl⟩
  go_wp2
  go_ret
  rw [HR.out]
  exact ⟨rfl, HE.out.bel⟩
 | false =>
  cases D with
  | true =>
   have HR : Hid (z = 1) := HQ.out
   go_enter Tryz.func44, Tryz.ntmps44
   go_wp2_with fail
   refine (rlat_at c false _ hL).mono ?_
   rintro e w5 ⟨rfl, rfl⟩
   go_wp2
   go_ret
   rw [HR.out]
   exact ⟨rfl, HE.out.bel⟩
  | false =>
   cases S with
   | true =>
    have HR : Hid (z = 1) := HQ.out
    go_enter Tryz.func44, Tryz.ntmps44
    go_wp2_with fail
    refine (rlat_at c false _ hL).mono ?_
    rintro e w5 ⟨rfl, rfl⟩
    go_wp2_with fail
    refine (rsyl_at c true _ hS).mono ?_
    rintro e w5 ⟨rfl, rfl⟩
    go_wp2
    go_ret
    rw [HR.out]
    exact ⟨rfl, HE.out.bel⟩
   | false =>
    by_cases hu : 65 ≤ c ∧ c ≤ 90
    ·have d1 : decide (65 ≤ c) = true := decide_eq_true hu.1
     have d2 : decide (c ≤ 90) = true := decide_eq_true hu.2
     have HR : Hid (z = 3) := by
      have := HQ.out
      rwa [if_neg (by simp), if_pos (uppB_iff.2 hu)] at this
     clear hu
     go_enter Tryz.func44, Tryz.ntmps44
     go_wp2_with fail
     refine (rlat_at c false _ hL).mono ?_
     rintro e w5 ⟨rfl, rfl⟩
     go_wp2_with fail
     refine (rsyl_at c false _ hS).mono ?_
     rintro e w5 ⟨rfl, rfl⟩
     go_wp2
     go_ret
     rw [HR.out]
     exact ⟨rfl, HE.out.bel⟩
    ·have HR : Hid ((val T.sta c).getD 0 = z) := by
      have := HQ.out
      rw [if_neg (by simp), if_neg (fun h => hu (uppB_iff.1 h))] at this
      exact this.symm
     have HU : Hid (¬ (65 ≤ c ∧ c ≤ 90)) := hu
     clear hu
     by_cases h1 : 65 ≤ c
     ·have d1 : decide (65 ≤ c) = true := decide_eq_true h1
      have d2 : decide (c ≤ 90) = false := decide_eq_false fun h => HU.out ⟨h1, h⟩
      clear h1
      go_enter Tryz.func44, Tryz.ntmps44
      go_wp2_with fail
      refine (rlat_at c false _ hL).mono ?_
      rintro e w5 ⟨rfl, rfl⟩
      go_wp2_with fail
      refine (rsyl_at c false _ hS).mono ?_
      rintro e w5 ⟨rfl, rfl⟩
      go_wp2_with fail
      refine (rvalue_sp x.a5 T.sta c z _ HE.out.tab.sta HR).mono ?_
      rintro e w1 ⟨rfl, hb⟩
      have HB := Lib.hid (HE.out.step hb)
      clear hb k
      go_wp2
      go_ret
      exact ⟨rfl, HB.out.bel⟩
     ·have d1 : decide (65 ≤ c) = false := decide_eq_false h1
      clear h1
      go_enter Tryz.func44, Tryz.ntmps44
      go_wp2_with fail
      refine (rlat_at c false _ hL).mono ?_
      rintro e w5 ⟨rfl, rfl⟩
      go_wp2_with fail
      refine (rsyl_at c false _ hS).mono ?_
      rintro e w5 ⟨rfl, rfl⟩
      go_wp2_with fail
      refine (rvalue_sp x.a5 T.sta c z _ HE.out.tab.sta HR).mono ?_
      rintro e w1 ⟨rfl, hb⟩
      have HB := Lib.hid (HE.out.step hb)
      clear hb k
      go_wp2
      go_ret
      exact ⟨rfl, HB.out.bel⟩
set_option maxRecDepth 100000 in
set_option maxHeartbeats 8000000 in
theorem rmapped_any (x : TV) (T : Tb) (w : World) (hx : TabV w x T) (hso : spOk T.sta = true) :
 Calls Tryz.prog 126 #[x.agg] w (Gives (.bool (r5 T)) w) := by
 obtain ⟨a0, a1, a2, a3, a4, a5, a6, a7, a8, a9, a10, a11⟩ := x
 obtain ⟨pm, cm, hm, hmin, hml⟩ := hx.map
 obtain ⟨n, hn⟩ : ∃ n, T.map.length = n := ⟨_, rfl⟩
 rw [hn] at hm hml
 simp only at hm
 subst hm
 obtain ⟨ps, cs, hs, hsin, hsl⟩ := hx.sta
 obtain ⟨ns, hns⟩ : ∃ n, T.sta.length = n := ⟨_, rfl⟩
 rw [hns] at hs hsl
 simp only at hs
 subst hs
 have HE := Lib.hid (Env.new hx)
 have HSO := Lib.hid hso
 have hasc : ascB 0 T.sta = true := by simp only [spOk, Bool.and_eq_true] at hso; exact hso.1
 have HA := Lib.hid hasc
 have HN := Lib.hid hn
 have HNS := Lib.hid hns
 have HMI := Lib.hid hmin
 have HSI := Lib.hid hsin
 obtain ⟨C, hC⟩ : ∃ C, Hid (cntV 3 T.sta = C) := ⟨_, rfl⟩
 have HR : Hid (T.map.all (mapOk T) = true → C = n → r5 T = true) := fun h e => by
  unfold r5; rw [h, hC.out, hn, Bool.true_and]; exact decide_eq_true e
 have HF : Hid (T.map.all (mapOk T) = false → r5 T = false) := fun h => by unfold r5; rw [h]; rfl
 have HFC : Hid (C ≠ n → r5 T = false) := fun h => by unfold r5; rw [hC.out, hn, decide_eq_false h, Bool.and_false]
 clear hx hso hasc hn hns hmin hsin
 have hbx := HE.out.box
 simp only [BoxT] at hbx
 obtain ⟨⟨_, _, _, _, _, k5⟩, ⟨_, _, _, _, _, _⟩⟩ := hbx
 simp only [TV.agg]
 go_enter Tryz.func126, Tryz.ntmps126
 go_wp2
 go_loopw [3, 14] (fun v i wr => ∃ k : Nat, k ≤ ns ∧ i = .int .i64 k ∧ (∃ z : Int, 0 ≤ z ∧ z ≤ 1114112 ∧ v = .int .i64 z ∧ Hid (cntV 3 (T.sta.take k) = z)) ∧ Hid (Env w ⟨a0, a1, a2, a3, a4, .slice ps ns cs, a6, a7, .slice pm n cm, a9, a10, a11⟩ T wr)) (fun _ i _ => ns - (intOf i).toNat)
 case atStart => exact ⟨0, Nat.zero_le _, rfl, ⟨0, by omega, by omega, rfl, rfl⟩, HE⟩
 case round =>
  obtain ⟨k, hk, rfl, ⟨z, hz0, hz1, rfl, hz⟩, he⟩ := hrel
  by_cases hlt : k < ns
  ·have hkl : k < T.sta.length := by rw [HNS.out]; exact hlt
   obtain ⟨b, off, rfl, hc1, hc2, hc3⟩ := (HSI.out.below he.out.bel) k hkl
   obtain ⟨a1', a2', a3'⟩ := asc_getD HA.out k hkl
   have hbd := cntV_bd (v := 3) (asc_take (k + 1) HA.out)
   have hle := ends_le (asc_take (k + 1) HA.out) (by omega)
   have hsn : cntV 3 (T.sta.take (k + 1)) = z + if (T.sta.getD k sp0).2.2 = 3 then (T.sta.getD k sp0).2.1 - (T.sta.getD k sp0).1 + 1 else 0 := by rw [take_snoc_sp T.sta k hkl, cntV_snoc, hz.out]
   obtain ⟨⟨f, t, v⟩, hs⟩ : ∃ s, T.sta.getD k sp0 = s := ⟨_, rfl⟩
   rw [hs] at hc1 hc2 hc3 a1' a2' a3' hsn
   simp only at hc1 hc2 hc3 a1' a2' a3' hsn
   have HEb := Lib.hid (he.out.step ((Below.refl _ _).alloc (Nat.le_refl _) (.cells #[.int .i64 f, .int .i64 t, .int .i64 v] 45)))
   by_cases hvx : v = 3
   ·have hb1 : (v == 3) = true := by simp [hvx]
    rw [if_pos hvx] at hsn
    have hb0 : z + (t - f + 1) ≤ 1114112 := by omega
    have HC := Lib.hid hsn
    clear hs hsn hbd hle hvx k5
    go_wp2
    go_roundw
    case rel => exact ⟨k + 1, by omega, by go_num, ⟨z + (t - f + 1), by omega, hb0, by go_num, HC⟩, HEb⟩
    case measure => simp [intOf]; omega
   ·have hb1 : (v == 3) = false := by simp [hvx]
    rw [if_neg hvx, Int.add_zero] at hsn
    have HC := Lib.hid hsn
    clear hs hsn hbd hle hvx k5
    go_wp2
    go_roundw
    case rel => exact ⟨k + 1, by omega, by go_num, ⟨z, hz0, hz1, rfl, HC⟩, HEb⟩
    case measure => simp [intOf]; omega
  ·obtain rfl : ns = k := by omega
   have HZ : Hid (C = z) := by
    unfold Hid; rw [← hz.out, ← hC.out, List.take_of_length_le (Nat.le_of_eq HNS.out)]
   have hbx := he.out.box
   simp only [BoxT] at hbx
   obtain ⟨⟨_, _, _, _, _, _⟩, ⟨_, _, k8, _, _, _⟩⟩ := hbx
   by_cases hzn : z = n
   ·have dz : (z != (n : Int)) = false := by simp [hzn]
    have HRR : Hid (T.map.all (mapOk T) = true → r5 T = true) := fun h => HR.out h (HZ.out.trans hzn)
    clear hzn HR k5
    go_wp2
    obtain ⟨wa, rfl⟩ : ∃ wa : World, wa = wr := ⟨_, rfl⟩
    have HEa := Lib.hid he.out
    clear he k8
    go_loopw [38] (fun i wr => ∃ k : Nat, k ≤ n ∧ i = .int .i64 k ∧ Hid ((T.map.take k).all (mapOk T) = true) ∧ Hid (Env w ⟨a0, a1, a2, a3, a4, .slice ps ns cs, a6, a7, .slice pm n cm, a9, a10, a11⟩ T wr)) (fun i _ => n - (intOf i).toNat)
    case atStart => exact ⟨0, Nat.zero_le _, rfl, by simp [Hid], HEa⟩
    case round =>
     obtain ⟨k, hk, rfl, hall, he⟩ := hrel
     by_cases hlt : k < n
     ·have hkl : k < T.map.length := by rw [HN.out]; exact hlt
      obtain ⟨b, off, v, rfl, hc1, hc2, qa, cq, rfl, hi2, hm2⟩ := (HMI.out.below he.out.bel) k hkl
      have hsn := all_take_snoc (mapOk T) T.map k mp0 hkl
      rw [hall.out, Bool.true_and] at hsn
      have hno : mapOk T (T.map.getD k mp0) = false → r5 T = false := fun h => HF.out (all_of_take _ T.map (k + 1) (by rw [hsn, h]))
      obtain ⟨⟨f, y⟩, hs⟩ : ∃ s, T.map.getD k mp0 = s := ⟨_, rfl⟩
      rw [hs] at hc1 hc2 hsn hno hi2 hm2
      simp only at hc1 hc2 hsn hno hi2 hm2
      rw [mapOk_parts] at hsn hno
      obtain ⟨m, hm3⟩ : ∃ m, y.length = m := ⟨_, rfl⟩
      rw [hm3] at hc2 hm2
      have HSN := Lib.hid hsn
      have HNO := Lib.hid hno
      have HY := Lib.hid hi2
      have HYL := Lib.hid hm3
      have HEb := Lib.hid (he.out.step ((Below.refl _ _).alloc (Nat.le_refl _) (.cells #[.int .i64 f, .slice qa m cq] 47)))
      have HBM := Lib.hid (BoxM.new wr f (.slice qa m cq) 47)
      have HY1 := Lib.hid (RowIn.alloc hi2 (.cells #[.int .i64 f, .slice qa m cq] 47))
      obtain ⟨z, hz⟩ : ∃ z, Hid (staT T f = z) := ⟨_, rfl⟩
      clear hs hsn hno hi2 hm3
      have hbx := HEb.out.box
      simp only [BoxT] at hbx
      obtain ⟨⟨k0, k1, k2, k3, k4, k5⟩, ⟨k6, k7, k8, k9, k10, k11⟩⟩ := hbx
      go_wp2_with fail
      refine (rstatus_at _ T f z _ HEb.out.tab HSO.out hz).mono ?_
      rintro e w2 ⟨rfl, hb2⟩
      have HE2 := Lib.hid (HEb.out.step hb2)
      have HBM2 := Lib.hid (HBM.out.below hb2)
      have HY2 := Lib.hid (HY1.out.below hb2)
      clear hb2 k0 k1 k2 k3 k4 k5 k6 k7 k8 k9 k10 k11 hc1 hc2
      by_cases hz3 : z = 3
      ·have d3 : (z != 3) = false := by simp [hz3]
       have HZ : Hid (staT T f = 3) := hz.out.trans hz3
       have hbm := HBM2.out
       simp only [BoxM] at hbm
       obtain ⟨c1, c2⟩ := hbm
       clear hz3
       go_wp2
       obtain ⟨wo, rfl⟩ : ∃ wo : World, wo = w2 := ⟨_, rfl⟩
       go_loopw [50] (fun i wr2 => ∃ j : Nat, j ≤ m ∧ i = .int .i64 j ∧ Hid ((y.take j).all (okSta T) = true) ∧ Hid (Env w ⟨a0, a1, a2, a3, a4, .slice ps ns cs, a6, a7, .slice (some ⟨b, off, none⟩) n cm, a9, a10, a11⟩ T wr2) ∧ Hid (IntsIn wr2 qa y)) (fun i _ => m - (intOf i).toNat)
       case atStart => exact ⟨0, Nat.zero_le _, rfl, by simp [Hid], HE2, HY2⟩
       case round =>
        obtain ⟨j, hj, rfl, hall2, he2, hy2⟩ := hrel
        clear c1 c2
        by_cases hlt2 : j < m
        ·have hjl : j < y.length := by rw [HYL.out]; exact hlt2
         obtain ⟨b3, off3, rfl, hc3⟩ := hy2.out j hjl
         have hs2 := all_take_snoc (okSta T) y j 0 hjl
         rw [hall2.out, Bool.true_and] at hs2
         obtain ⟨c, hcc⟩ : ∃ c, y.getD j 0 = c := ⟨_, rfl⟩
         rw [hcc] at hc3 hs2
         have HS2 := Lib.hid hs2
         obtain ⟨u, hu⟩ : ∃ u, Hid (staT T c = u) := ⟨_, rfl⟩
         have hok : okSta T c = (decide (u = 1) || decide (u = 4)) := by rw [okSta, hu.out]
         have HOK := Lib.hid hok
         have hbx := he2.out.box
         simp only [BoxT] at hbx
         obtain ⟨⟨k0, k1, k2, k3, k4, k5⟩, ⟨k6, k7, k8, k9, k10, k11⟩⟩ := hbx
         clear hcc hs2 hok
         go_wp2_with fail
         refine (rstatus_at _ T c u _ he2.out.tab HSO.out hu).mono ?_
         rintro e w3 ⟨rfl, hb3⟩
         have HE3 := Lib.hid (he2.out.step hb3)
         have HY3 := Lib.hid (hy2.out.below hb3)
         clear hb3 k0 k1 k2 k3 k4 k5 k6 k7 k8 k9 k10 k11 hc3
         by_cases h1 : u = 1
         ·have d1 : (u != 1) = false := by simp [h1]
          have HT : Hid ((y.take (j + 1)).all (okSta T) = true) := by unfold Hid; rw [HS2.out, HOK.out, h1]; rfl
          clear h1
          go_wp2
          go_roundw
          case rel => exact ⟨j + 1, by omega, by go_num, HT, HE3, HY3⟩
          case measure => simp [intOf]; omega
         ·have d1 : (u != 1) = true := by simp [h1]
          by_cases h4 : u = 4
          ·have d4 : (u != 4) = false := by simp [h4]
           have HT : Hid ((y.take (j + 1)).all (okSta T) = true) := by unfold Hid; rw [HS2.out, HOK.out, h4]; rfl
           clear h1 h4
           go_wp2
           go_roundw
           case rel => exact ⟨j + 1, by omega, by go_num, HT, HE3, HY3⟩
           case measure => simp [intOf]; omega
          ·have d4 : (u != 4) = true := by simp [h4]
           have HFF : Hid (r5 T = false) := HNO.out (by
            rw [all_of_take (okSta T) y (j + 1) (by rw [HS2.out, HOK.out]; simp [h1, h4]), Bool.and_false])
           clear h1 h4
           go_wp2
           go_ret
           rw [HFF.out]
           exact ⟨rfl, HE3.out.bel⟩
        ·obtain rfl : j = m := by omega
         have HT : Hid ((T.map.take (k + 1)).all (mapOk T) = true) := by
          have h := hall2.out
          rw [List.take_of_length_le (Nat.le_of_eq HYL.out)] at h
          unfold Hid; rw [HSN.out, HZ.out, h]; rfl
         go_wp2
         go_roundw
         case rel => exact ⟨k + 1, by omega, by go_num, HT, he2⟩
         case measure => simp [intOf]; omega
      ·have d3 : (z != 3) = true := by simp [hz3]
       have HFF : Hid (r5 T = false) := HNO.out (by rw [hz.out, decide_eq_false hz3]; rfl)
       clear hz3
       go_wp2
       go_ret
       rw [HFF.out]
       exact ⟨rfl, HE2.out.bel⟩
     ·obtain rfl : k = n := by omega
      have HT : Hid (T.map.all (mapOk T) = true) := by
       have := hall.out
       rwa [List.take_of_length_le (Nat.le_of_eq HN.out)] at this
      have HRX := Lib.hid (HRR.out HT.out)
      go_wp2
      go_ret
      rw [HRX.out]
      exact ⟨rfl, he.out.bel⟩
   ·have dz : (z != (n : Int)) = true := by simp [hzn]
    have HFF := Lib.hid (HFC.out (by rw [HZ.out]; exact hzn))
    clear hzn k5
    go_wp2
    go_ret
    rw [HFF.out]
    exact ⟨rfl, he.out.bel⟩
end Go.Proofs.YtopaojjodkoidaaGreatDoor
