/- The laws of order: marks, the example, awake. The laws of or -/
import Derived.Test.YtopaojjodkoidaaGreatDoorSSmPkR
import Derived.Test.YtopaojjodkoidaaGreatDoorSSmTblJ
import Derived.Test.YtopaojjodkoidaaGreatDoorSSmPkF
import Derived.Test.YtopaojjodkoidaaGreatDoorSSmPkZZR
set_option linter.unusedSimpArgs false
set_option linter.unusedVariables false
namespace Go.Proofs.YtopaojjodkoidaaGreatDoor
open Go.RowKit
def CapOf (x : TV) : Prop := ∀ p n c, x.a9 = .slice p n c → n ≤ c
structure LEnv (w0 : World) (g : Nat) (x : TV) (T : Tb) (w : World) : Prop where
 tab : TabV w x T
 box : BoxT w g x
 bel : Below w0.heap.size w0 w
theorem LEnv.step {w0 w w' : World} {g : Nat} {x : TV} {T : Tb} (h : LEnv w0 g x T w) (hb : Below w.heap.size w w') : LEnv w0 g x T w' :=
 ⟨h.tab.below hb, h.box.below hb, h.bel.trans (hb.mono h.bel.size)⟩
theorem Ints.row {w : World} {B : Nat} {v : Value} {xs : List Int} (h : Ints w B v xs) (hn : 0 < xs.length) :
 ∃ g c, v = .slice (some ⟨g, 0, none⟩) xs.length c ∧ B ≤ g ∧ g < w.heap.size ∧ (∀ k, k < xs.length → w.cell? ⟨g, k, none⟩ = some (.int .i64 (xs.getD k 0))) ∧ (∀ k, w.frozen? ⟨g, k, none⟩ = false) := by
 have hh := h
 unfold Ints at hh
 obtain ⟨h1, h2⟩ := h
 rcases h2 with ⟨rfl, h3⟩ | ⟨g, cap, cur, rfl, hB, hg, hnc, hc, hs, htk⟩
 ·omega
 ·rw [Nat.mul_one] at htk
  exact ⟨g, cap, rfl, hB, (World.ownsRow.lt hh g rfl).2, fun k hk => row_cells hg htk k hk, fun k => World.ownsRow.frozenAt hh k⟩
theorem Ints.set {w : World} {B g n c : Nat} {xs : List Int} (h : Ints w B (.slice (some ⟨g, 0, none⟩) n c) xs) (hn : xs.length = n) (k : Nat) (z : Int) : Ints (w.setCell ⟨g, k, none⟩ (.int .i64 z)) B (.slice (some ⟨g, 0, none⟩) n c) (xs.set k z) := by
 subst hn
 unfold Ints at h ⊢
 rw [List.length_set, List.map_set]
 exact (World.ownsRow.stored h k _).1
abbrev boxF (g : Nat) (x : TV) (w : World) : Prop := w.cell? ⟨g, 0, none⟩ = some x.a0 ∧ w.cell? ⟨g, 1, none⟩ = some x.a1 ∧ w.cell? ⟨g, 2, none⟩ = some x.a2 ∧ w.cell? ⟨g, 3, none⟩ = some x.a3 ∧ w.cell? ⟨g, 4, none⟩ = some x.a4 ∧ w.cell? ⟨g, 5, none⟩ = some x.a5 ∧ w.cell? ⟨g, 6, none⟩ = some x.a6 ∧ w.cell? ⟨g, 7, none⟩ = some x.a7 ∧ w.cell? ⟨g, 8, none⟩ = some x.a8 ∧ w.cell? ⟨g, 9, none⟩ = some x.a9 ∧ w.cell? ⟨g, 10, none⟩ = some x.a10 ∧ w.cell? ⟨g, 11, none⟩ = some x.a11
theorem BoxT.flat {w : World} {g : Nat} {x : TV} (h : BoxT w g x) : boxF g x w := by
 obtain ⟨⟨k0, k1, k2, k3, k4, k5⟩, ⟨k6, k7, k8, k9, k10, k11⟩⟩ := h.load
 exact ⟨k0, k1, k2, k3, k4, k5, k6, k7, k8, k9, k10, k11⟩
end Go.Proofs.YtopaojjodkoidaaGreatDoor
