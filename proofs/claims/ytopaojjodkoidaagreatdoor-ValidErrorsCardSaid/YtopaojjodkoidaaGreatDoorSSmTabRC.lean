/-
  The references of table: rule 2.
-/
import Derived.Test.YtopaojjodkoidaaGreatDoorSSmTabH
import Derived.Test.YtopaojjodkoidaaGreatDoorSSmRanRefChk
import Derived.Deep.DeepCutAuto
import Derived.Deep.QuietTactic
import Derived.BigQuiet
set_option linter.unusedSimpArgs false
set_option linter.unusedVariables false
namespace Go.Proofs.YtopaojjodkoidaaGreatDoor
open Go.RowKit
def SevIn (w : World) (g : Nat) (x : TV) : Prop := ∀ k, k < 7 → w.cell? ⟨g, k, none⟩ = some (spVal x k)
def FourIn (w : World) (g : Nat) (x : TV) : Prop := ∀ k, k < 4 → w.cell? ⟨g, k, none⟩ = some (mpVal x k)
theorem SevIn.below {w w' : World} {g : Nat} {x : TV} (h : SevIn w g x) (hb : Below w.heap.size w w') : SevIn w' g x := fun k hk => (hb.cell (p := ⟨g, k, none⟩) (World.block_lt_of_cell? w _ (h k hk))).trans (h k hk)
theorem FourIn.below {w w' : World} {g : Nat} {x : TV} (h : FourIn w g x) (hb : Below w.heap.size w w') : FourIn w' g x := fun k hk => (hb.cell (p := ⟨g, k, none⟩) (World.block_lt_of_cell? w _ (h k hk))).trans (h k hk)
theorem lit_ints (w : World) (C : Array Value) (xs : List Int) (t : TypeId) (h : C.toList = xs.map (.int .i64)) : IntsIn (w.alloc (.cells C t)) (some ⟨w.heap.size, 0, none⟩) xs := by
 intro k hk
 refine ⟨_, _, rfl, ?_⟩
 rw [Nat.zero_add, World.cell?_alloc_new, ← Array.getElem?_toList, h]
 simp [hk]
def mostL : List Int := [8, 254, 5, 11, 60, 4, 1]
def SpansPost (x : TV) (w : World) (e : Ending) (w' : World) : Prop :=
 ∃ g h, e = .returned (.tuple #[.slice (some ⟨g, 0, none⟩) 7 7, .slice (some ⟨h, 0, none⟩) 7 7]) ∧ SevIn w' g x ∧ IntsIn w' (some ⟨h, 0, none⟩) mostL ∧ Below w.heap.size w w'
set_option maxHeartbeats 2000000 in
theorem rspans_any (x : TV) (T : Tb) (w : World) (hx : TabV w x T) :
 Calls Tryz.prog 145 #[x.agg] w (SpansPost x w) := by
 obtain ⟨a0, a1, a2, a3, a4, a5, a6, a7, a8, a9, a10, a11⟩ := x
 obtain ⟨p0, n0, c0, rfl⟩ := hx.cat.slc
 obtain ⟨p1, n1, c1, rfl⟩ := hx.cls.slc
 obtain ⟨p2, n2, c2, rfl⟩ := hx.joi.slc
 obtain ⟨p3, n3, c3, rfl⟩ := hx.bid.slc
 obtain ⟨p4, n4, c4, rfl⟩ := hx.scr.slc
 obtain ⟨p5, n5, c5, rfl⟩ := hx.sta.slc
 obtain ⟨p6, n6, c6, rfl⟩ := hx.ign.slc
 clear hx
 simp only [TV.agg]
 go_enter Tryz.func145, Tryz.ntmps145
 go_wp2
 go_ret2
 refine ⟨_, _, rfl, fun k hk => ?_, ?_, (((Below.refl _ _).alloc (Nat.le_refl _) _).alloc (by simp) _).alloc (by simp; omega) _⟩
 ·have h : k = 0 ∨ k = 1 ∨ k = 2 ∨ k = 3 ∨ k = 4 ∨ k = 5 ∨ k = 6 := by omega
  rcases h with rfl | rfl | rfl | rfl | rfl | rfl | rfl <;> (refine (World.cell?_alloc_lt _ _ _ (by simp)).trans ?_; rw [show w.heap.size + 1 = (w.alloc (.cells #[.slice p0 n0 c0, .slice p1 n1 c1, .slice p2 n2 c2, .slice p3 n3 c3, .slice p4 n4 c4, .slice p5 n5 c5, .slice p6 n6 c6, a7, a8, a9, a10, a11] 26)).heap.size by simp, World.cell?_alloc_new]; rfl)
 ·have := lit_ints ((w.alloc (.cells #[.slice p0 n0 c0, .slice p1 n1 c1, .slice p2 n2 c2, .slice p3 n3 c3, .slice p4 n4 c4, .slice p5 n5 c5, .slice p6 n6 c6, a7, a8, a9, a10, a11] 26)).alloc (.cells #[.slice p0 n0 c0, .slice p1 n1 c1, .slice p2 n2 c2, .slice p3 n3 c3, .slice p4 n4 c4, .slice p5 n5 c5, .slice p6 n6 c6] 23)) #[.int .i64 8, .int .i64 254, .int .i64 5, .int .i64 11, .int .i64 60, .int .i64 4, .int .i64 1] mostL 3 rfl
  simpa using this
def MapsPost (x : TV) (w : World) (e : Ending) (w' : World) : Prop :=
 ∃ g, e = .returned (.slice (some ⟨g, 0, none⟩) 4 4) ∧ FourIn w' g x ∧ Below w.heap.size w w'
set_option maxHeartbeats 2000000 in
theorem rmaps_any (x : TV) (T : Tb) (w : World) (hx : TabV w x T) :
 Calls Tryz.prog 146 #[x.agg] w (MapsPost x w) := by
 obtain ⟨a0, a1, a2, a3, a4, a5, a6, a7, a8, a9, a10, a11⟩ := x
 obtain ⟨p0, n0, c0, rfl⟩ := hx.ext.slc
 obtain ⟨p1, n1, c1, rfl⟩ := hx.map.slc
 obtain ⟨p2, n2, c2, rfl⟩ := hx.dec.slc
 obtain ⟨p3, n3, c3, rfl⟩ := hx.pro.slc
 clear hx
 simp only [TV.agg]
 go_enter Tryz.func146, Tryz.ntmps146
 go_wp2
 go_ret
 refine ⟨_, rfl, fun k hk => ?_, ((Below.refl _ _).alloc (Nat.le_refl _) _).alloc (by simp) _⟩
 have h : k = 0 ∨ k = 1 ∨ k = 2 ∨ k = 3 := by omega
 rcases h with rfl | rfl | rfl | rfl <;> (rw [show w.heap.size + 1 = (w.alloc (.cells #[a0, a1, a2, a3, a4, a5, a6, .slice p0 n0 c0, .slice p1 n1 c1, .slice p2 n2 c2, a10, .slice p3 n3 c3] 26)).heap.size by simp, World.cell?_alloc_new]; rfl)
theorem SevIn.at_ {w0 w : World} {g : Nat} {x : TV} {T : Tb} (h : SevIn w g x) (ht : TabV w0 x T) (k : Nat) (hk : k < 7) :
 ∃ p n c l, (spansT T).getD k [] = l ∧ l.length = n ∧ n ≤ 17592186043904 ∧ SpIn w0 p l ∧ w.cell? ⟨g, k, none⟩ = some (.slice p n c) := by
 obtain ⟨p, c, e, h1, h2⟩ := ht.sp k hk
 exact ⟨p, _, c, _, rfl, rfl, h2, h1, by rw [h k hk, e]⟩
theorem FourIn.at_ {w0 w : World} {g : Nat} {x : TV} {T : Tb} (h : FourIn w g x) (ht : TabV w0 x T) (k : Nat) (hk : k < 4) :
 ∃ p n c l, (mpsT T).getD k [] = l ∧ l.length = n ∧ n ≤ 17592186043904 ∧ MpIn w0 p l ∧ w.cell? ⟨g, k, none⟩ = some (.slice p n c) := by
 obtain ⟨p, c, e, h1, h2⟩ := ht.mp k hk
 exact ⟨p, _, c, _, rfl, rfl, h2, h1, by rw [h k hk, e]⟩
set_option maxRecDepth 100000 in
set_option maxHeartbeats 4000000 in
theorem rsmall_any (x : TV) (T : Tb) (w : World) (hx : TabV w x T) :
 Calls Tryz.prog 122 #[x.agg] w (Gives (.bool (r1 T)) w) := by
 obtain ⟨a0, a1, a2, a3, a4, a5, a6, a7, a8, a9, a10, a11⟩ := x
 obtain ⟨pe, ce, he, _, hel⟩ := hx.exc
 obtain ⟨ne, hne⟩ : ∃ n, T.exc.length = n := ⟨_, rfl⟩
 rw [hne] at he hel
 simp only at he
 subst he
 have HE := Lib.hid (Env.new hx)
 have HN := Lib.hid hne
 clear hx hne
 simp only [TV.agg]
 go_enter Tryz.func122, Tryz.ntmps122
 go_wp2_with fail
 refine (rspans_any _ T _ HE.out.tab).mono ?_
 rintro e w1 ⟨g, h, rfl, hsev, _, hb⟩
 have HS := Lib.hid hsev
 have HE1 := Lib.hid (HE.out.step hb)
 clear hb hsev
 go_wp2
 go_loop [6, 17] (fun v i => ∃ k : Nat, k ≤ 7 ∧ i = .int .i64 k ∧ Hid (((spansT T).take k).all fewS = true)) (fun _ i => 7 - (intOf i).toNat)
 case atStart => exact ⟨0, by omega, rfl, rfl⟩
 case round =>
  obtain ⟨k, hk, rfl, hall⟩ := hrel
  by_cases hlt : k < 7
  ·obtain ⟨p, n, c, l, hl, hln, hn, _, hc⟩ := HS.out.at_ HE1.out.tab k hlt
   have hst := sp_step fewS hlt hall.out
   rw [hl, fewS, hln] at hst
   have HST := Lib.hid hst
   clear hl hln hst
   by_cases hbig : 256 < n
   ·have HF : Hid (r1 T = false) := by
     unfold Hid r1
     rw [all_of_take fewS (spansT T) (k + 1) (by rw [HST.out]; simp; omega)]; rfl
    go_wp2
    go_ret
    rw [HF.out]
    exact ⟨rfl, HE1.out.bel⟩
   ·have HT : Hid (((spansT T).take (k + 1)).all fewS = true) := by unfold Hid; rw [HST.out]; simp; omega
    go_wp2
    go_round
    case rel => exact ⟨k + 1, by omega, by go_num, HT⟩
    case measure => simp [intOf]; omega
  ·obtain rfl : k = 7 := by omega
   have HS7 : Hid ((spansT T).all fewS = true) := by
    have := hall.out
    rwa [List.take_of_length_le (Nat.le_of_eq (spansT_len T))] at this
   have hbx := HE1.out.box
   simp only [BoxT] at hbx
   obtain ⟨⟨k0, k1, k2, k3, k4, k5⟩, ⟨k6, k7, k8, k9, k10, k11⟩⟩ := hbx
   go_wp2_with fail
   refine (rmaps_any _ T _ HE1.out.tab).mono ?_
   rintro e w2 ⟨g2, rfl, hfour, hb2⟩
   have HF4 := Lib.hid hfour
   have HE2 := Lib.hid (HE1.out.step hb2)
   clear hb2 hfour k0 k1 k2 k3 k4 k5 k6 k7 k8 k9 k10 k11
   go_wp2
   go_loop [9, 29] (fun v i => ∃ k : Nat, k ≤ 4 ∧ i = .int .i64 k ∧ Hid (((mpsT T).take k).all fewM = true)) (fun _ i => 4 - (intOf i).toNat)
   case atStart => exact ⟨0, by omega, rfl, rfl⟩
   case round =>
    obtain ⟨k, hk, rfl, hall⟩ := hrel
    by_cases hlt : k < 4
    ·obtain ⟨p, n, c, l, hl, hln, hn, _, hc⟩ := HF4.out.at_ HE2.out.tab k hlt
     have hst := mp_step fewM hlt hall.out
     rw [hl, fewM, hln] at hst
     have HST := Lib.hid hst
     clear hl hln hst
     by_cases hbig : 256 < n
     ·have HF : Hid (r1 T = false) := by
       unfold Hid r1
       rw [all_of_take fewM (mpsT T) (k + 1) (by rw [HST.out]; simp; omega)]
       simp
      go_wp2
      go_ret
      rw [HF.out]
      exact ⟨rfl, HE2.out.bel⟩
     ·have HT : Hid (((mpsT T).take (k + 1)).all fewM = true) := by unfold Hid; rw [HST.out]; simp; omega
      go_wp2
      go_round
      case rel => exact ⟨k + 1, by omega, by go_num, HT⟩
      case measure => simp [intOf]; omega
    ·obtain rfl : k = 4 := by omega
     have HM4 : Hid ((mpsT T).all fewM = true) := by
      have := hall.out
      rwa [List.take_of_length_le (Nat.le_of_eq (mpsT_len T))] at this
     have HR : Hid (r1 T = decide (ne ≤ 256)) := by unfold Hid r1; rw [HS7.out, HM4.out, HN.out]; rfl
     have k10 := HE2.out.box.2.2.2.2.2.1
     simp only at k10
     go_wp2
     go_ret
     exact ⟨iff_ret (by rw [HR.out]; simp only [decide_eq_true_eq]; omega), HE2.out.bel⟩
abbrev clnV : Value := .agg #[.int .i64 0, .int .i64 127, .int .i64 55296, .int .i64 57343, .int .i64 44032, .int .i64 55203, .int .i64 4352, .int .i64 4370, .int .i64 4449, .int .i64 4469, .int .i64 4520, .int .i64 4546]
def clnL : List (Int × Int) := [(0, 127), (55296, 57343), (44032, 55203), (4352, 4370), (4449, 4469), (4520, 4546)]
theorem cln_all (f t : Int) : resF f t = clnL.any (hitB f t) := by
 simp only [resF, clnL, hitB, List.any_cons, List.any_nil, Bool.or_false]
 cases meets f t 0 127 <;> cases meets f t 4352 4370 <;> cases meets f t 4449 4469 <;> cases meets f t 4520 4546 <;> cases meets f t 44032 55203 <;> cases meets f t 55296 57343 <;> rfl
theorem cln_index (k : Nat) (hk : k < 6) (w : World) :
 (Instr.index 139 clnV (.int .i64 k)).run Tryz.prog w = .ok (.agg #[.int .i64 (clnL.getD k (0, 0)).1, .int .i64 (clnL.getD k (0, 0)).2]) w := by
 have h : k = 0 ∨ k = 1 ∨ k = 2 ∨ k = 3 ∨ k = 4 ∨ k = 5 := by omega
 rcases h with rfl | rfl | rfl | rfl | rfl | rfl
 ·exact (show (Instr.index 139 clnV (.int .i64 0)).run Tryz.prog w = .ok (.agg #[.int .i64 0, .int .i64 127]) w by kernel_rfl)
 ·exact (show (Instr.index 139 clnV (.int .i64 1)).run Tryz.prog w = .ok (.agg #[.int .i64 55296, .int .i64 57343]) w by kernel_rfl)
 ·exact (show (Instr.index 139 clnV (.int .i64 2)).run Tryz.prog w = .ok (.agg #[.int .i64 44032, .int .i64 55203]) w by kernel_rfl)
 ·exact (show (Instr.index 139 clnV (.int .i64 3)).run Tryz.prog w = .ok (.agg #[.int .i64 4352, .int .i64 4370]) w by kernel_rfl)
 ·exact (show (Instr.index 139 clnV (.int .i64 4)).run Tryz.prog w = .ok (.agg #[.int .i64 4449, .int .i64 4469]) w by kernel_rfl)
 ·exact (show (Instr.index 139 clnV (.int .i64 5)).run Tryz.prog w = .ok (.agg #[.int .i64 4520, .int .i64 4546]) w by kernel_rfl)
set_option maxHeartbeats 2000000 in
theorem clean_at (f t v : Int) (B : Bool) (w : World) (hB : Hid (resF f t = B)) :
 Calls Tryz.prog 148 #[.agg #[.int .i64 f, .int .i64 t, .int .i64 v]] w (Gives (.bool (!B)) w) := by
 have HA := Lib.hid (cln_all f t)
 have c0 : (w.alloc (.cells #[.int .i64 f, .int .i64 t, .int .i64 v] 45)).cell? ⟨w.heap.size, 0, none⟩ = some (.int .i64 f) := by simp [World.cell?_alloc_new]
 have c1 : (w.alloc (.cells #[.int .i64 f, .int .i64 t, .int .i64 v] 45)).cell? ⟨w.heap.size, 1, none⟩ = some (.int .i64 t) := by simp [World.cell?_alloc_new]
 have C0 := Lib.hid c0
 have C1 := Lib.hid c1
 have HB0 : Hid (Below w.heap.size w (w.alloc (.cells #[.int .i64 f, .int .i64 t, .int .i64 v] 45))) := (Below.refl _ _).alloc (Nat.le_refl _) _
 clear c0 c1
 go_enter Tryz.func148, Tryz.ntmps148
 go_wp2
 go_loopw [12] (fun i wr => ∃ k : Nat, k ≤ 6 ∧ i = .int .i64 k ∧ Hid ((clnL.take k).any (hitB f t) = false) ∧ Hid (Below (w.alloc (.cells #[.int .i64 f, .int .i64 t, .int .i64 v] 45)).heap.size (w.alloc (.cells #[.int .i64 f, .int .i64 t, .int .i64 v] 45)) wr)) (fun i _ => 6 - (intOf i).toNat)
 case atStart => exact ⟨0, by omega, rfl, rfl, Below.refl _ _⟩
 case round =>
  obtain ⟨k, hk, rfl, hno, hb⟩ := hrel
  by_cases hlt : k < 6
  ·have hix := cln_index k hlt
   have hsn := any_take_snoc (hitB f t) clnL k (0, 0) (by simpa [clnL] using hlt)
   rw [hno.out, Bool.false_or] at hsn
   obtain ⟨⟨a, b⟩, hab⟩ : ∃ r, clnL.getD k (0, 0) = r := ⟨_, rfl⟩
   rw [hab] at hix hsn
   simp only [hitB, meets] at hsn
   simp only at hix
   have HS := Lib.hid hsn
   have hlw : w.heap.size < (w.alloc (.cells #[.int .i64 f, .int .i64 t, .int .i64 v] 45)).heap.size := by simp
   have e0 := (hb.out.cell (p := ⟨w.heap.size, 0, none⟩) hlw).trans C0.out
   have e1 := (hb.out.cell (p := ⟨w.heap.size, 1, none⟩) hlw).trans C1.out
   have E0 : Hid ((wr.alloc (.cells #[.int .i64 a, .int .i64 b] 110)).cell? ⟨w.heap.size, 0, none⟩ = some (.int .i64 f)) := (World.cell?_alloc_lt wr _ ⟨w.heap.size, 0, none⟩ (World.block_lt_of_cell? wr _ e0)).trans e0
   have E1 : Hid ((wr.alloc (.cells #[.int .i64 a, .int .i64 b] 110)).cell? ⟨w.heap.size, 1, none⟩ = some (.int .i64 t)) := (World.cell?_alloc_lt wr _ ⟨w.heap.size, 1, none⟩ (World.block_lt_of_cell? wr _ e1)).trans e1
   clear hsn hab hlw e0 e1
   have e0 := E0.out
   have e1 := E1.out
   by_cases h1 : f ≤ b
   ·by_cases h2 : a ≤ t
    ·have HR : Hid (B = true) := by
      unfold Hid; rw [← hB.out, HA.out]; exact any_of_take _ _ (k + 1) (by rw [HS.out]; simp [h1, h2])
     go_wp2
     go_ret
     exact ⟨by rw [HR.out]; rfl, HB0.out.trans ((hb.out.alloc hb.out.size _).mono (by simp))⟩
    ·have HN : Hid ((clnL.take (k + 1)).any (hitB f t) = false) := by unfold Hid; rw [HS.out]; simp [h2]
     have d2 : decide (a ≤ t) = false := decide_eq_false h2
     go_wp2
     go_roundw
     case rel => exact ⟨k + 1, by omega, by go_num, HN, hb.out.alloc hb.out.size _⟩
     case measure => simp [intOf]; omega
   ·have HN : Hid ((clnL.take (k + 1)).any (hitB f t) = false) := by unfold Hid; rw [HS.out]; simp [h1]
    have d2 : decide (f ≤ b) = false := decide_eq_false h1
    go_wp2
    go_roundw
    case rel => exact ⟨k + 1, by omega, by go_num, HN, hb.out.alloc hb.out.size _⟩
    case measure => simp [intOf]; omega
  ·obtain rfl : k = 6 := by omega
   have HR : Hid (B = false) := by unfold Hid; rw [← hB.out, HA.out]; exact hno.out
   go_wp2
   go_ret
   exact ⟨by rw [HR.out]; rfl, HB0.out.trans (hb.out.mono (by simp))⟩
def rk (k : Nat) (c : Int) : Bool := resB c && !(decide (k = 3) && latB c)
def keyF (k : Nat) (l : List Mp) : Bool := ascI 0 1114111 (froms l) && l.all fun m => !rk k m.1
theorem keyF_res {k : Nat} (hk : k < 3) (l : List Mp) : keyF k l = keyOk (froms l) := by
 unfold keyF keyOk froms
 rw [List.all_map]
 congr 2
 funext m
 simp only [rk, Function.comp, decide_eq_false (show ¬ k = 3 by omega), Bool.false_and, Bool.not_false, Bool.and_true]
theorem keyF_pro (l : List Mp) : keyF 3 l = keyOkP (froms l) := by
 unfold keyF keyOkP froms
 rw [List.all_map]
 congr 1
theorem r2_keys (T : Tb) : r2 T = ((spansT T).all spOk && (keyF 0 T.ext && (keyF 1 T.map && (keyF 2 T.dec && (keyF 3 T.pro && keyOk T.exc))))) := by
 unfold r2
 rw [keyF_res (by omega), keyF_res (by omega), keyF_res (by omega), keyF_pro]
theorem keyF_snoc (k : Nat) (a : List Mp) (m : Mp) : keyF k (a ++ [m]) = true ↔ keyF k a = true ∧ endI 0 (froms a) ≤ m.1 ∧ m.1 ≤ 1114111 ∧ rk k m.1 = false := by
 have e : froms (a ++ [m]) = froms a ++ [m.1] := by simp [froms]
 simp only [keyF, Bool.and_eq_true, e, ascI_snoc, List.all_append, List.all_cons, List.all_nil, Bool.and_true, Bool.not_eq_true']
 constructor
 ·rintro ⟨⟨h1, h2, h3⟩, h4, h5⟩; exact ⟨⟨h1, h4⟩, h2, h3, h5⟩
 ·rintro ⟨⟨h1, h4⟩, h2, h3, h5⟩; exact ⟨⟨h1, h2, h3⟩, h4, h5⟩
theorem ascI_of_keyF {k : Nat} {l : List Mp} (h : keyF k l = true) : ascI 0 1114111 (froms l) = true := by
 simp only [keyF, Bool.and_eq_true] at h; exact h.1
theorem keyF_prefix {k : Nat} {l : List Mp} (i : Nat) (h : keyF k (l.take i) = false) : keyF k l = false := by
 cases hb : keyF k l with
 | false => rfl
 | true =>
  simp only [keyF, Bool.and_eq_true] at hb
  have h1 := ascI_take i hb.1
  rw [← froms_take] at h1
  have : keyF k (l.take i) = true := by
   simp only [keyF, Bool.and_eq_true]
   exact ⟨h1, List.all_eq_true.2 fun x hx => List.all_eq_true.1 hb.2 x (List.mem_of_mem_take hx)⟩
  rw [this] at h; cases h
theorem keyOk_snoc (a : List Int) (c : Int) : keyOk (a ++ [c]) = true ↔ keyOk a = true ∧ endI 0 a ≤ c ∧ c ≤ 1114111 ∧ resB c = false := by
 simp only [keyOk, Bool.and_eq_true, ascI_snoc, List.all_append, List.all_cons, List.all_nil, Bool.and_true, Bool.not_eq_true']
 constructor
 ·rintro ⟨⟨h1, h2, h3⟩, h4, h5⟩; exact ⟨⟨h1, h4⟩, h2, h3, h5⟩
 ·rintro ⟨⟨h1, h4⟩, h2, h3, h5⟩; exact ⟨⟨h1, h2, h3⟩, h4, h5⟩
theorem ascI_of_keyOk {l : List Int} (h : keyOk l = true) : ascI 0 1114111 l = true := by
 simp only [keyOk, Bool.and_eq_true] at h; exact h.1
theorem keyOk_prefix {l : List Int} (i : Nat) (h : keyOk (l.take i) = false) : keyOk l = false := by
 cases hb : keyOk l with
 | false => rfl
 | true =>
  simp only [keyOk, Bool.and_eq_true] at hb
  have : keyOk (l.take i) = true := by
   simp only [keyOk, Bool.and_eq_true]
   exact ⟨ascI_take i hb.1, List.all_eq_true.2 fun x hx => List.all_eq_true.1 hb.2 x (List.mem_of_mem_take hx)⟩
  rw [this] at h; cases h
theorem rres_q (c : Int) (B : Bool) (w : World) (hB : Hid (resB c = B)) : Calls Tryz.prog 149 #[.int .i64 c] w fun e w' => e = .returned (.bool B) ∧ w' = w :=
 (rres_any c w).mono fun e w' h => ⟨by rw [← hB.out]; exact h.1, h.2.symm⟩
theorem rlat_q (c : Int) (B : Bool) (w : World) (hB : Hid (latB c = B)) : Calls Tryz.prog 71 #[.int .i64 c] w fun e w' => e = .returned (.bool B) ∧ w' = w :=
 (rlat_any c w).mono fun e w' h => ⟨by rw [← hB.out]; exact h.1, h.2.symm⟩
theorem mp_list {T : Tb} (q : (k : Nat) → List Mp → Bool) (h : ∀ j, j < 4 → q j ((mpsT T).getD j []) = true) : q 0 T.ext = true ∧ q 1 T.map = true ∧ q 2 T.dec = true ∧ q 3 T.pro = true :=
 ⟨h 0 (by omega), h 1 (by omega), h 2 (by omega), h 3 (by omega)⟩
theorem mp_bad {T : Tb} {j : Nat} (hj : j < 4) (h : keyF j ((mpsT T).getD j []) = false) : r2 T = false := by
 rw [r2_keys]
 have : j = 0 ∨ j = 1 ∨ j = 2 ∨ j = 3 := by omega
 rcases this with rfl | rfl | rfl | rfl
 ·rw [show keyF 0 T.ext = false from h]; simp
 ·rw [show keyF 1 T.map = false from h]; simp
 ·rw [show keyF 2 T.dec = false from h]; simp
 ·rw [show keyF 3 T.pro = false from h]; simp
end Go.Proofs.YtopaojjodkoidaaGreatDoor
