/-
  The laws of order: marks, the example, awake.
  The laws of order: what every walk carries.
-/
import Derived.Test.YtnnhcgflmhjakaaGreatDoorPkR
import Derived.Test.YtnnhcgflmhjakaaGreatDoorQTblJ
import Derived.Test.YtnnhcgflmhjakaaGreatDoorPkF
import Derived.Test.YtnnhcgflmhjakaaGreatDoorQTabRG
set_option linter.unusedSimpArgs false
set_option linter.unusedVariables false
namespace Go.Proofs.YtnnhcgflmhjakaaGreatDoor
open Go.RowKit
set_option linter.unusedVariables false

def markL : List Int := [769, 776, 803, 837, 2381, 97, 945, 44032]
theorem markL_sca : ∀ j, j < 8 → scaB (markL.getD j 0) = true := by decide

/-- What 'marks' leaves: at most nine scalar values in a new slice. -/
def MarksPost (w : World) (e : Ending) (w' : World) : Prop :=
  ∃ (xs : List Int) (v : Value), e = .returned v ∧ xs.length ≤ 9 ∧ xs.all scaB = true ∧ Ints w' w.heap.size v xs ∧ Below w.heap.size w w'

set_option maxHeartbeats 1000000 in
theorem marks_any (p : Option Addr) (cap : Nat) (zs : List Int) (w : World) (hin : IntsIn w p zs) (hl : zs.length ≤ 17592186043904) :
    Calls Tryz.prog 19 #[.slice p zs.length cap] w (MarksPost w) := by
  have HI := Lib.hid hin
  clear hin
  obtain ⟨v0, v1⟩ := nextV_bd zs 10 (by omega)
  obtain ⟨n, hn⟩ : ∃ n : Nat, nextV zs 10 = n := ⟨(nextV zs 10).toNat, by omega⟩
  have hn10 : n ≤ 9 := by omega
  have HN := Lib.hid hn
  clear v0 v1 hn
  go_enter Tryz.func19, Tryz.ntmps19
  go_wp2_with fail
  refine (from_any p cap zs _ HI.out hl).mono ?_
  rintro e w1 ⟨g, rfl, hg, hs1, hb1⟩
  have HS1 := Lib.hid hs1
  have HB1 := Lib.hid hb1
  clear hs1 hb1
  go_wp2_with fail
  refine (next_at g zs 10 n _ HS1.out (by omega) (by omega) HN).mono ?_
  rintro e w2 ⟨rfl, hs2, hg2⟩
  have hb2 : Below w.heap.size w w2 := HB1.out.grown hg2 HB1.out.size (by intro k e; cases e; exact hg)
  have HS2 := Lib.hid hs2
  have HB2 := Lib.hid hb2
  clear hs2 hb2 hg2
  go_wp2
  go_loopw [4, 5] (fun v m wr => ∃ k : Nat, ∃ xs : List Int, ∃ r : List Int, k ≤ 9 ∧ m = .int .i64 k ∧ xs.length + k ≤ 9 ∧ Hid (xs.all scaB = true) ∧ Hid (Src wr g r) ∧ Hid (Ints wr (g + 1) v xs) ∧ Hid (Below w.heap.size w wr)) (fun _ m _ => (intOf m).toNat)
  case atStart => exact ⟨n, [], zs.tail, hn10, rfl, by simp; omega, rfl, HS2, Ints.nil _ _, HB2⟩
  case round =>
    obtain ⟨k, xs, r, hk, rfl, hxk, ha, hs, hown, hbel⟩ := hrel
    by_cases h0 : 0 < k
    · obtain ⟨q, hq⟩ : ∃ q : Nat, nextV r 8 = q := ⟨(nextV r 8).toNat, by have := nextV_bd r 8 (by omega); omega⟩
      have hq8 : q < 8 := by have := nextV_bd r 8 (by omega); omega
      have HQ := Lib.hid hq
      obtain ⟨c, hc⟩ : ∃ c, markL.getD q 0 = c := ⟨_, rfl⟩
      have HC : Hid (scaB c = true) := by unfold Hid; rw [← hc]; exact markL_sca q hq8
      have hlt := hs.out.lt
      obtain ⟨Lm, hLm⟩ : ∃ o : Obj, o = .cells #[.int .i64 769, .int .i64 776, .int .i64 803, .int .i64 837, .int .i64 2381, .int .i64 97, .int .i64 945, .int .i64 44032] 3 := ⟨_, rfl⟩
      have hcl : (wr.alloc Lm).cell? ⟨wr.heap.size, q, none⟩ = some (.int .i64 c) := by
        rw [hLm]
        obtain ⟨b, off, e, hce⟩ := lit_ints wr #[.int .i64 769, .int .i64 776, .int .i64 803, .int .i64 837, .int .i64 2381, .int .i64 97, .int .i64 945, .int .i64 44032] markL 3 rfl q (by simpa [markL] using hq8)
        cases e
        rw [Nat.zero_add, hc] at hce
        exact hce
      have HCL := Lib.hid hcl
      have HSA : Hid (Src (wr.alloc Lm) g r) := hs.out.alloc _
      have HOA : Hid (Ints (wr.alloc Lm) (g + 1) u4 xs) := hown.out.alloc _
      have HBA : Hid (Below w.heap.size w (wr.alloc Lm)) := hbel.out.alloc hbel.out.size _
      have HLT := Lib.hid hlt
      rw [hLm] at HCL HSA HOA HBA
      clear hq hc hcl hLm hlt
      go_wp2_with fail
      refine (next_at g r 8 q _ HSA.out (by omega) (by omega) HQ).mono ?_
      rintro e w3 ⟨rfl, hs3, hg3⟩
      have hcl : w3.cell? ⟨wr.heap.size, q, none⟩ = some (.int .i64 c) := hg3.cell HCL.out (by have := HLT.out; simp; omega)
      have hk3 := (Keeps.of_grown hg3).weak (Q := fun b => b = g) (fun b _ e => by injection e with e; exact e.symm)
      have hown3 := hk3.owns HOA.out (fun b hb e => by have := World.ownsRow.lt HOA.out b hb; omega)
      have HO3 := Lib.hid (Ints.alloc hown3 (.cells #[.int .i64 c] 3))
      have HS3 := Lib.hid hs3
      have HB3 := Lib.hid (HBA.out.trans (hk3.below HBA.out.size (fun b _ e => by omega)))
      have HSL := Lib.hid hs3.lt
      have hqi : (q : Int) < 8 := by omega
      clear hs3 hg3 hown3 hk3
      go_wp2_with (at_builtin; refine wpList_append_one _ _ rfl rfl (g + 1) u4 xs (by rfl) (by exact HO3.out) _ 1 c (by rfl) (by simp [World.cell?_alloc_new]) (by omega) (by have := HSL.out; simp; omega) ?_; intro v' w4 hown4 hg4 hv4)
      have hA : (xs ++ [c]).all scaB = true := by rw [List.all_append, ha.out]; simpa using HC.out
      have hown3' : Ints (w3.alloc (.cells #[.int .i64 c] 3)) (g + 1) u4 xs := HO3.out
      have hB : Below w.heap.size w w4 := (HB3.out.alloc HB3.out.size _).grown hg4 (by have := HB3.out.size; simp; omega) (fun j hj => by have := (World.ownsRow.lt hown3' j hj).1; omega)
      have hS : Src w4 g r.tail := (HS3.out.alloc _).grown hg4 (fun j hj => by have := (World.ownsRow.lt hown3' j hj).1; omega)
      have HA := Lib.hid hA
      have HI4 := Lib.hid hown4
      have HB := Lib.hid hB
      have HS := Lib.hid hS
      clear hA hB hS hown4 hg4 hv4 hown3' hcl
      go_wp2
      go_roundw
      case rel => exact ⟨k - 1, xs ++ [c], r.tail, by omega, by go_num, by simp; omega, HA, HS, HI4, HB⟩
      case measure => simp [intOf]; omega
    · obtain rfl : k = 0 := by omega
      have HO := Lib.hid (Ints.mono hown.out (B' := w.heap.size) (by omega))
      go_wp2
      go_ret
      exact ⟨xs, _, rfl, by omega, ha.out, HO.out, hbel.out⟩

/-- The example's tables. -/
def exT : Tb := ⟨[], [(769, 769, 230), (803, 803, 220)], [], [], [], [], [], [], [], [], [], []⟩
def exX (g : Nat) : TV := ⟨.slice none 0 0, .slice (some ⟨g, 0, none⟩) 2 2, .slice none 0 0, .slice none 0 0, .slice none 0 0, .slice none 0 0, .slice none 0 0, .slice none 0 0, .slice none 0 0, .slice none 0 0, .slice none 0 0, .slice none 0 0⟩
theorem ex_check : checkT exT = 0 := by decide +kernel
theorem ex_acc : accE exT [97, 769, 803] = 0 := by decide +kernel
theorem ex_ord : ordL exT [97, 769, 803] = [97, 803, 769] := by decide +kernel
theorem ex_runs : runsL exT [97, 769, 803] = [1, 3] := by decide +kernel
theorem exS (w : World) : SpV w (.slice none 0 0) [] := ⟨none, 0, rfl, fun k hk => absurd hk (Nat.not_lt_zero _), by simp⟩
theorem exM (w : World) : MpV w (.slice none 0 0) [] := ⟨none, 0, rfl, fun k hk => absurd hk (Nat.not_lt_zero _), by simp⟩
theorem exI (w : World) : InV w (.slice none 0 0) [] := ⟨none, 0, rfl, fun k hk => absurd hk (Nat.not_lt_zero _), by simp⟩

theorem same_at (v u : Value) (xs ys : List Int) (B : Bool) (w : World) (hv : InV w v xs) (hu : InV w u ys) (hB : Hid ((xs == ys) = B)) :
    Calls Tryz.prog 37 #[v, u] w (Gives (.bool B) w) := by
  obtain ⟨p, c, rfl, h1, h2⟩ := hv
  obtain ⟨q, d, rfl, h3, h4⟩ := hu
  rw [← hB.out]
  exact same_any p q c d xs ys w h1 h3 (by unfold maxLen; omega) (by unfold maxLen; omega)

theorem ex_cls (W : World) (g : Nat) (h : W.heap[g]? = some (.cells #[.int .i64 769, .int .i64 769, .int .i64 230, .int .i64 803, .int .i64 803, .int .i64 220] 65 (0, 0))) : SpV W (.slice (some ⟨g, 0, none⟩) 2 2) exT.cls := by
  refine ⟨_, 2, rfl, fun k hk => ?_, by decide⟩
  have hc := fun (j : Nat) => cell_of_row W g j _ _ (0, 0) h
  have hk2 : k = 0 ∨ k = 1 := by have : k < 2 := hk; omega
  rcases hk2 with rfl | rfl
  · exact ⟨g, 0, rfl, hc 0, hc 1, hc 2⟩
  · exact ⟨g, 0, rfl, hc 3, hc 4, hc 5⟩

theorem example_any (w : World) :
    Calls Tryz.prog 46 #[] w fun e w' => ∃ g, e = .returned (exX g).agg ∧ TabV w' (exX g) exT ∧ Below w.heap.size w w' := by
  have hbx := (BoxT.new w (exX (w.heap.size + 1)) 29).below ((Below.refl _ _).alloc (Nat.le_refl _) (.cells #[.int .i64 769, .int .i64 769, .int .i64 230, .int .i64 803, .int .i64 803, .int .i64 220] 65))
  simp only [tabCells, exX] at hbx
  have HBX := Lib.hid hbx
  clear hbx
  go_enter Tryz.func46, Tryz.ntmps46
  go_wp2
  obtain ⟨⟨Q0, Q1, Q2, Q3, Q4, Q5⟩, ⟨Q6, Q7, Q8, Q9, Q10, Q11⟩⟩ := HBX.out.load
  simp only at Q0 Q1 Q2 Q3 Q4 Q5 Q6 Q7 Q8 Q9 Q10 Q11
  refine bodyPost_ret (v := (exX (w.heap.size + 1)).agg) (by simp [results, Tryz.results46, go_sem, Q0, Q1, Q2, Q3, Q4, Q5, Q6, Q7, Q8, Q9, Q10, Q11, exX]) rfl ?_
  refine ⟨w.heap.size + 1, rfl, ?_, ((Below.refl _ _).alloc (Nat.le_refl _) _).alloc (by simp) _⟩
  exact ⟨exS _, ex_cls _ _ (by rw [heap_alloc2_new]), exS _, exS _, exS _, exS _, exS _, exM _, exM _, exM _, exI _, exM _⟩

set_option maxRecDepth 100000 in
set_option maxHeartbeats 4000000 in
theorem awake6_any (w : World) (hr : Rsv w) : Calls Tryz.prog 17 #[] w (Gives (.bool true) w) := by
  have HR := Lib.hid hr
  clear hr
  go_enter Tryz.func17, Tryz.ntmps17
  go_wp2_with fail
  refine (example_any _).mono ?_
  rintro e w1 ⟨g1, rfl, ht1, hb1⟩
  have HB1 := Lib.hid (hb1.alloc hb1.size (.cells #[.int .i64 97, .int .i64 769, .int .i64 803] 3))
  have HT1 := Lib.hid (ht1.alloc (.cells #[.int .i64 97, .int .i64 769, .int .i64 803] 3))
  have HI1 := Lib.hid (lit_ints w1 #[.int .i64 97, .int .i64 769, .int .i64 803] [97, 769, 803] 3 rfl)
  clear ht1 hb1
  simp only [exX, TV.agg]
  go_wp2_with fail
  refine (order_at (exX g1) exT _ 3 [97, 769, 803] 0 [97, 803, 769] _ HT1.out (HR.out.below HB1.out) HI1.out (by simp) ex_acc ex_ord).mono ?_
  rintro e w2 ⟨v2, rfl, ho2, hb2⟩
  obtain ⟨p2, c2, rfl, hi2⟩ := ho2.inn
  have HB2 := Lib.hid (HB1.out.trans (hb2.mono HB1.out.size))
  have HI2 := Lib.hid hi2
  clear ho2 hb2 hi2
  go_wp2_with fail
  refine (example_any _).mono ?_
  rintro e w3 ⟨g3, rfl, ht3, hb3⟩
  have HB3 := Lib.hid ((HB2.out.trans (hb3.mono HB2.out.size)).alloc (Nat.le_trans HB2.out.size hb3.size) (.cells #[.int .i64 97, .int .i64 769, .int .i64 803] 3))
  have HT3 := Lib.hid (ht3.alloc (.cells #[.int .i64 97, .int .i64 769, .int .i64 803] 3))
  have HI3 := Lib.hid (lit_ints w3 #[.int .i64 97, .int .i64 769, .int .i64 803] [97, 769, 803] 3 rfl)
  replace HI2 := Lib.hid ((HI2.out.below hb3).alloc (.cells #[.int .i64 97, .int .i64 769, .int .i64 803] 3))
  clear ht3 hb3
  simp only [exX, TV.agg]
  go_wp2_with fail
  refine (runs_at (exX g3) exT _ 3 [97, 769, 803] 0 [1, 3] _ HT3.out (HR.out.below HB3.out) HI3.out (by simp) ex_acc ex_runs).mono ?_
  rintro e w4 ⟨v4, rfl, ho4, hb4⟩
  obtain ⟨p4, c4, rfl, hi4⟩ := ho4.inn
  have HB4 := Lib.hid ((HB3.out.trans (hb4.mono HB3.out.size)).alloc (Nat.le_trans HB3.out.size hb4.size) (.cells #[.int .i64 97, .int .i64 803, .int .i64 769] 3))
  have HI4 := Lib.hid (hi4.alloc (.cells #[.int .i64 97, .int .i64 803, .int .i64 769] 3))
  replace HI2 := Lib.hid ((HI2.out.below hb4).alloc (.cells #[.int .i64 97, .int .i64 803, .int .i64 769] 3))
  have HI5 := Lib.hid (lit_ints w4 #[.int .i64 97, .int .i64 803, .int .i64 769] [97, 803, 769] 3 rfl)
  clear ho4 hb4 hi4
  go_wp2_with fail
  refine (same_at _ _ [97, 803, 769] [97, 803, 769] true _ ⟨_, _, rfl, HI2.out, by simp⟩ ⟨_, _, rfl, HI5.out, by simp⟩ (by simp [Hid])).mono ?_
  rintro e w5 ⟨rfl, hb5⟩
  have HB5 := Lib.hid ((HB4.out.trans (hb5.mono HB4.out.size)).alloc (Nat.le_trans HB4.out.size hb5.size) (.cells #[.int .i64 1, .int .i64 3] 3))
  replace HI4 := Lib.hid ((HI4.out.below hb5).alloc (.cells #[.int .i64 1, .int .i64 3] 3))
  have HI6 := Lib.hid (lit_ints w5 #[.int .i64 1, .int .i64 3] [1, 3] 3 rfl)
  clear hb5
  go_wp2_with fail
  refine (same_at _ _ [1, 3] [1, 3] true _ ⟨_, _, rfl, HI4.out, by simp⟩ ⟨_, _, rfl, HI6.out, by simp⟩ (by simp [Hid])).mono ?_
  rintro e w6 ⟨rfl, hb6⟩
  have HB6 := Lib.hid (HB5.out.trans (hb6.mono HB5.out.size))
  clear hb6
  go_wp2
  go_ret
  exact ⟨rfl, HB6.out⟩

end Go.Proofs.YtnnhcgflmhjakaaGreatDoor

namespace Go.Proofs.YtnnhcgflmhjakaaGreatDoor
open Go.RowKit
set_option linter.unusedVariables false

def CapOf (x : TV) : Prop := ∀ p n c, x.a9 = .slice p n c → n ≤ c

/-- The tables T lie in x, x in block g. -/
structure LEnv (w0 : World) (g : Nat) (x : TV) (T : Tb) (w : World) : Prop where
  tab : TabV w x T
  box : BoxT w g x
  bel : Below w0.heap.size w0 w
theorem LEnv.step {w0 w w' : World} {g : Nat} {x : TV} {T : Tb} (h : LEnv w0 g x T w) (hb : Below w.heap.size w w') : LEnv w0 g x T w' :=
  ⟨h.tab.below hb, h.box.below hb, h.bel.trans (hb.mono h.bel.size)⟩

theorem pickN_at (v n q : Int) (w : World) (h0 : 1 ≤ n) (h1 : n ≤ 1125899906842624) (hq : Hid (pickS v n = q)) :
    Calls Tryz.prog 9 #[.int .i64 v, .int .i64 n] w fun e w' => e = .returned (.int .i64 q) ∧ w = w' := hq.out ▸ pickL_any v n w h0 h1
theorem pickN_nm (v : Int) (n : Nat) (h : 1 ≤ n) : ∃ k : Nat, Hid (pickS v n = k) ∧ k < n := by
  have := pickS_bd v n (by omega)
  exact ⟨(pickS v n).toNat, by unfold Hid; omega, by omega⟩

/-- A row of a call's own that is not empty: its block. -/
theorem Ints.row {w : World} {B : Nat} {v : Value} {xs : List Int} (h : Ints w B v xs) (hn : 0 < xs.length) :
    ∃ g c, v = .slice (some ⟨g, 0, none⟩) xs.length c ∧ B ≤ g ∧ g < w.heap.size ∧ (∀ k, k < xs.length → w.cell? ⟨g, k, none⟩ = some (.int .i64 (xs.getD k 0))) ∧ (∀ k, w.frozen? ⟨g, k, none⟩ = false) := by
  have hh := h
  unfold Ints at hh
  obtain ⟨h1, h2⟩ := h
  rcases h2 with ⟨rfl, h3⟩ | ⟨g, cap, cur, rfl, hB, hg, hnc, hc, hs, htk⟩
  · omega
  · rw [Nat.mul_one] at htk
    exact ⟨g, cap, rfl, hB, (World.ownsRow.lt hh g rfl).2, fun k hk => row_cells hg htk k hk, fun k => World.ownsRow.frozenAt hh k⟩

/-- A store into it. -/
theorem Ints.set {w : World} {B g n c : Nat} {xs : List Int} (h : Ints w B (.slice (some ⟨g, 0, none⟩) n c) xs) (hn : xs.length = n) (k : Nat) (z : Int) : Ints (w.setCell ⟨g, k, none⟩ (.int .i64 z)) B (.slice (some ⟨g, 0, none⟩) n c) (xs.set k z) := by
  subst hn
  unfold Ints at h ⊢
  rw [List.length_set, List.map_set]
  exact (World.ownsRow.stored h k _).1

theorem step_app_ints {w : World} {ops : Array Oper} {o : Oper} {a : Act} {K : Act → World → Prop} {Z : Exit → Act → World → Prop} {E : Prop} (hgd : o.guard = none) (s x : Operand)
    (ho : o.op = .call { callee := .builtin .append, args := #[s, x], argTypes := #[22, 22] })
    (base : Nat) (v : Value) (xs : List Int) (hs : a.eval s = v) (hown : Ints w base v xs)
    (p : Option Addr) (m c : Nat) (ys : List Int) (hm : ys.length = m) (hx : a.eval x = .slice p m c) (hin : IntsIn w p ys)
    (hlen : xs.length + ys.length ≤ 17592186043904) (hbase : base ≤ w.heap.size)
    (h : ∀ v' w', Ints w' base v' (xs ++ ys) → w.grownBy w' v.ownBlock → K (a.put o.dst v') w') :
    if Region.wanted o (yielded ops a.tmps) = true then Oper.wp Tryz.prog o a w K Z else E := by
  have hw : Region.wanted o (yielded ops a.tmps) = true := by simp [Region.wanted, hgd]
  rw [if_pos hw]
  exact wp_append_ints s x ho base v xs hs hown p m c ys hm hx hin hlen hbase h

/-- Letters have the class 0. -/
theorem cls_low {T : Tb} (h : checkT T = 0) {c : Int} (hc : resB c = true) : clsT T c = 0 := by
  have h2 : r2 T = true := by
    unfold checkT at h
    cases h1 : r1 T with
    | false => rw [h1] at h; simp at h
    | true => cases h2 : r2 T with
      | true => rfl
      | false => rw [h1, h2] at h; simp at h
  have hs : spOk T.cls = true := by
    unfold r2 spansT at h2
    simp only [List.all_cons, Bool.and_eq_true] at h2
    exact h2.1.2.1
  unfold clsT
  rw [val_res hs hc]
  rfl

abbrev boxF (g : Nat) (x : TV) (w : World) : Prop := w.cell? ⟨g, 0, none⟩ = some x.a0 ∧ w.cell? ⟨g, 1, none⟩ = some x.a1 ∧ w.cell? ⟨g, 2, none⟩ = some x.a2 ∧ w.cell? ⟨g, 3, none⟩ = some x.a3 ∧ w.cell? ⟨g, 4, none⟩ = some x.a4 ∧ w.cell? ⟨g, 5, none⟩ = some x.a5 ∧ w.cell? ⟨g, 6, none⟩ = some x.a6 ∧ w.cell? ⟨g, 7, none⟩ = some x.a7 ∧ w.cell? ⟨g, 8, none⟩ = some x.a8 ∧ w.cell? ⟨g, 9, none⟩ = some x.a9 ∧ w.cell? ⟨g, 10, none⟩ = some x.a10 ∧ w.cell? ⟨g, 11, none⟩ = some x.a11
theorem BoxT.flat {w : World} {g : Nat} {x : TV} (h : BoxT w g x) : boxF g x w := by
  obtain ⟨⟨k0, k1, k2, k3, k4, k5⟩, ⟨k6, k7, k8, k9, k10, k11⟩⟩ := h.load
  exact ⟨k0, k1, k2, k3, k4, k5, k6, k7, k8, k9, k10, k11⟩

end Go.Proofs.YtnnhcgflmhjakaaGreatDoor
