/-
  The laws of order: marks, the example, awake.
  The laws of order: what every walk carries.
-/
import Derived.Test.YtiafhifbgdkgaaaGreatDoorPkR
import Derived.Test.YtiafhifbgdkgaaaGreatDoorQTblJ
import Derived.Test.YtiafhifbgdkgaaaGreatDoorPkF
import Derived.Test.YtiafhifbgdkgaaaGreatDoorQTabRG
set_option linter.unusedSimpArgs false
set_option linter.unusedVariables false
namespace Go.Proofs.YtiafhifbgdkgaaaGreatDoor
open Go.RowKit
set_option linter.unusedVariables false

def markL : List Int := [769, 776, 803, 837, 2381, 97, 945, 44032]
theorem markL_sca : ∀ j, j < 8 → scaB (markL.getD j 0) = true := by decide

/-- What 'marks' leaves: at most nine scalar values in a new slice. -/
def MarksPost (w : World) (e : Ending) (w' : World) : Prop :=
  ∃ (xs : List Int) (v : Value), e = .returned v ∧ xs.length ≤ 9 ∧ xs.all scaB = true ∧ Ints w' w.heap.size v xs ∧ Below w.heap.size w w'

/-- The example's tables. -/
def exT : Tb := ⟨[], [(769, 769, 230), (803, 803, 220)], [], [], [], [], [], [], [], [], [], []⟩
def exX (g : Nat) : TV := ⟨.slice none 0 0, .slice (some ⟨g, 0, none⟩) 2 2, .slice none 0 0, .slice none 0 0, .slice none 0 0, .slice none 0 0, .slice none 0 0, .slice none 0 0, .slice none 0 0, .slice none 0 0, .slice none 0 0, .slice none 0 0⟩
theorem ex_check : checkT exT = 0 := by decide +kernel
theorem ex_acc : accE exT [97, 769, 803] = 0 := by decide +kernel
theorem ex_ord : ordL exT [97, 769, 803] = [97, 803, 769] := by decide +kernel
theorem ex_runs : runsL exT [97, 769, 803] = [1, 3] := by decide +kernel
theorem exS (w : World) : SpV w (.slice none 0 0) [] := ⟨none, 0, rfl, fun k hk => absurd hk (Nat.not_lt_zero _), by simp⟩
theorem exM (w : World) : MpV w (.slice none 0 0) [] := ⟨none, 0, rfl, fun k hk => absurd hk (Nat.not_lt_zero _), by simp⟩
theorem exI (w : World) : InV w (.slice none 0 0) [] := ⟨none, 0, rfl, fun k hk => absurd hk (Nat.not_lt_zero _), by simp⟩

theorem same_at (v u : Value) (xs ys : List Int) (B : Bool) (w : World) (hv : InV w v xs) (hu : InV w u ys) (hB : Hid ((xs == ys) = B)) :
    Calls Tryz.prog 36 #[v, u] w (Gives (.bool B) w) := by
  obtain ⟨p, c, rfl, h1, h2⟩ := hv
  obtain ⟨q, d, rfl, h3, h4⟩ := hu
  rw [← hB.out]
  exact same_any p q c d xs ys w h1 h3 (by unfold maxLen; omega) (by unfold maxLen; omega)

theorem ex_cls (W : World) (g : Nat) (h : W.heap[g]? = some (.cells #[.int .i64 769, .int .i64 769, .int .i64 230, .int .i64 803, .int .i64 803, .int .i64 220] 47 (0, 0))) : SpV W (.slice (some ⟨g, 0, none⟩) 2 2) exT.cls := by
  refine ⟨_, 2, rfl, fun k hk => ?_, by decide⟩
  have hc := fun (j : Nat) => cell_of_row W g j _ _ (0, 0) h
  have hk2 : k = 0 ∨ k = 1 := by have : k < 2 := hk; omega
  rcases hk2 with rfl | rfl
  · exact ⟨g, 0, rfl, hc 0, hc 1, hc 2⟩
  · exact ⟨g, 0, rfl, hc 3, hc 4, hc 5⟩

end Go.Proofs.YtiafhifbgdkgaaaGreatDoor

namespace Go.Proofs.YtiafhifbgdkgaaaGreatDoor
open Go.RowKit
set_option linter.unusedVariables false

def CapOf (x : TV) : Prop := ∀ p n c, x.a9 = .slice p n c → n ≤ c

/-- The tables T lie in x, x in block g. -/
structure LEnv (w0 : World) (g : Nat) (x : TV) (T : Tb) (w : World) : Prop where
  tab : TabV w x T
  box : BoxT w g x
  bel : Below w0.heap.size w0 w
theorem LEnv.step {w0 w w' : World} {g : Nat} {x : TV} {T : Tb} (h : LEnv w0 g x T w) (hb : Below w.heap.size w w') : LEnv w0 g x T w' :=
  ⟨h.tab.below hb, h.box.below hb, h.bel.trans (hb.mono h.bel.size)⟩

theorem pickN_at (v n q : Int) (w : World) (h0 : 1 ≤ n) (h1 : n ≤ 1125899906842624) (hq : Hid (pickS v n = q)) :
    Calls Tryz.prog 35 #[.int .i64 v, .int .i64 n] w fun e w' => e = .returned (.int .i64 q) ∧ w = w' := hq.out ▸ pickL_any v n w h0 h1
theorem pickN_nm (v : Int) (n : Nat) (h : 1 ≤ n) : ∃ k : Nat, Hid (pickS v n = k) ∧ k < n := by
  have := pickS_bd v n (by omega)
  exact ⟨(pickS v n).toNat, by unfold Hid; omega, by omega⟩

/-- A row of a call's own that is not empty: its block. -/
theorem Ints.row {w : World} {B : Nat} {v : Value} {xs : List Int} (h : Ints w B v xs) (hn : 0 < xs.length) :
    ∃ g c, v = .slice (some ⟨g, 0, none⟩) xs.length c ∧ B ≤ g ∧ g < w.heap.size ∧ (∀ k, k < xs.length → w.cell? ⟨g, k, none⟩ = some (.int .i64 (xs.getD k 0))) ∧ (∀ k, w.frozen? ⟨g, k, none⟩ = false) := by
  have hh := h
  unfold Ints at hh
  obtain ⟨h1, h2⟩ := h
  rcases h2 with ⟨rfl, h3⟩ | ⟨g, cap, cur, rfl, hB, hg, hnc, hc, hs, htk⟩
  · omega
  · rw [Nat.mul_one] at htk
    exact ⟨g, cap, rfl, hB, (World.ownsRow.lt hh g rfl).2, fun k hk => row_cells hg htk k hk, fun k => World.ownsRow.frozenAt hh k⟩

/-- A store into it. -/
theorem Ints.set {w : World} {B g n c : Nat} {xs : List Int} (h : Ints w B (.slice (some ⟨g, 0, none⟩) n c) xs) (hn : xs.length = n) (k : Nat) (z : Int) : Ints (w.setCell ⟨g, k, none⟩ (.int .i64 z)) B (.slice (some ⟨g, 0, none⟩) n c) (xs.set k z) := by
  subst hn
  unfold Ints at h ⊢
  rw [List.length_set, List.map_set]
  exact (World.ownsRow.stored h k _).1

theorem step_app_ints {w : World} {ops : Array Oper} {o : Oper} {a : Act} {K : Act → World → Prop} {Z : Exit → Act → World → Prop} {E : Prop} (hgd : o.guard = none) (s x : Operand)
    (ho : o.op = .call { callee := .builtin .append, args := #[s, x], argTypes := #[22, 22] })
    (base : Nat) (v : Value) (xs : List Int) (hs : a.eval s = v) (hown : Ints w base v xs)
    (p : Option Addr) (m c : Nat) (ys : List Int) (hm : ys.length = m) (hx : a.eval x = .slice p m c) (hin : IntsIn w p ys)
    (hlen : xs.length + ys.length ≤ 17592186043904) (hbase : base ≤ w.heap.size)
    (h : ∀ v' w', Ints w' base v' (xs ++ ys) → w.grownBy w' v.ownBlock → K (a.put o.dst v') w') :
    if Region.wanted o (yielded ops a.tmps) = true then Oper.wp Tryz.prog o a w K Z else E := by
  have hw : Region.wanted o (yielded ops a.tmps) = true := by simp [Region.wanted, hgd]
  rw [if_pos hw]
  exact wp_append_ints s x ho base v xs hs hown p m c ys hm hx hin hlen hbase h

/-- Letters have the class 0. -/
theorem cls_low {T : Tb} (h : checkT T = 0) {c : Int} (hc : resB c = true) : clsT T c = 0 := by
  have h2 : r2 T = true := by
    unfold checkT at h
    cases h1 : r1 T with
    | false => rw [h1] at h; simp at h
    | true => cases h2 : r2 T with
      | true => rfl
      | false => rw [h1, h2] at h; simp at h
  have hs : spOk T.cls = true := by
    unfold r2 spansT at h2
    simp only [List.all_cons, Bool.and_eq_true] at h2
    exact h2.1.2.1
  unfold clsT
  rw [val_res hs hc]
  rfl

abbrev boxF (g : Nat) (x : TV) (w : World) : Prop := w.cell? ⟨g, 0, none⟩ = some x.a0 ∧ w.cell? ⟨g, 1, none⟩ = some x.a1 ∧ w.cell? ⟨g, 2, none⟩ = some x.a2 ∧ w.cell? ⟨g, 3, none⟩ = some x.a3 ∧ w.cell? ⟨g, 4, none⟩ = some x.a4 ∧ w.cell? ⟨g, 5, none⟩ = some x.a5 ∧ w.cell? ⟨g, 6, none⟩ = some x.a6 ∧ w.cell? ⟨g, 7, none⟩ = some x.a7 ∧ w.cell? ⟨g, 8, none⟩ = some x.a8 ∧ w.cell? ⟨g, 9, none⟩ = some x.a9 ∧ w.cell? ⟨g, 10, none⟩ = some x.a10 ∧ w.cell? ⟨g, 11, none⟩ = some x.a11
theorem BoxT.flat {w : World} {g : Nat} {x : TV} (h : BoxT w g x) : boxF g x w := by
  obtain ⟨⟨k0, k1, k2, k3, k4, k5⟩, ⟨k6, k7, k8, k9, k10, k11⟩⟩ := h.load
  exact ⟨k0, k1, k2, k3, k4, k5, k6, k7, k8, k9, k10, k11⟩

end Go.Proofs.YtiafhifbgdkgaaaGreatDoor
