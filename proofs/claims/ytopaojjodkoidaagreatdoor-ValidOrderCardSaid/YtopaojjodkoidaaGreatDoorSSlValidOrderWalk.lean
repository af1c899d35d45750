/-
  The walk of ValidOrder (genVW.py).
-/
import Derived.Test.YtopaojjodkoidaaGreatDoorSSlPkZZO
import Derived.Test.YtopaojjodkoidaaGreatDoorSSlPkS
import Derived.Test.YtopaojjodkoidaaGreatDoorSSlTblQ
set_option linter.unusedSimpArgs false
set_option linter.unusedVariables false
namespace Go.Proofs.YtopaojjodkoidaaGreatDoor
open Go.RowKit
set_option linter.unusedVariables false

def voX (g : Nat) : TV := ⟨.slice (some ⟨g, 0, none⟩) 1 1, .slice (some ⟨g + 1, 0, none⟩) 1 1, .slice none 0 0, .slice none 0 0, .slice none 0 0, .slice (some ⟨g + 1 + 1, 0, none⟩) 3 3, .slice none 0 0, .slice none 0 0, .slice none 0 0, .slice (some ⟨g + 1 + 1 + 1 + 1, 0, none⟩) 1 1, .slice none 0 0, .slice none 0 0⟩
theorem lit_cellsV (w : World) (C : Array Value) (t : TypeId) : ∀ k v, C[k]? = some v → (w.alloc (.cells C t)).cell? ⟨w.heap.size, k, none⟩ = some v := by
  intro k v h
  rw [World.cell?_alloc_new, h]
theorem cells_belowV {w w' : World} {g : Nat} {C : Array Value} (h : ∀ k v, C[k]? = some v → w.cell? ⟨g, k, none⟩ = some v) (hb : Below w.heap.size w w') : ∀ k v, C[k]? = some v → w'.cell? ⟨g, k, none⟩ = some v := by
  intro k v hk
  have h1 := h k v hk
  exact (hb.cell (p := ⟨g, k, none⟩) (World.block_lt_of_cell? w _ h1)).trans h1
theorem vn_sp (w : World) : SpV w (.slice none 0 0) [] := ⟨none, 0, rfl, fun k hk => absurd hk (Nat.not_lt_zero _), by simp⟩
theorem vn_mp (w : World) : MpV w (.slice none 0 0) [] := ⟨none, 0, rfl, fun k hk => absurd hk (Nat.not_lt_zero _), by simp⟩
theorem vn_in (w : World) : InV w (.slice none 0 0) [] := ⟨none, 0, rfl, fun k hk => absurd hk (Nat.not_lt_zero _), by simp⟩
theorem vo_sp1 {W : World} {g : Nat} {a b c : Int} (h : ∀ k v, #[Value.int .i64 a, .int .i64 b, .int .i64 c][k]? = some v → W.cell? ⟨g, k, none⟩ = some v) : SpV W (.slice (some ⟨g, 0, none⟩) 1 1) [(a, b, c)] := by
  refine ⟨_, 1, rfl, fun k hk => ?_, by simp⟩
  obtain rfl : k = 0 := by have : k < 1 := hk; omega
  exact ⟨g, 0, rfl, h 0 _ rfl, h 1 _ rfl, h 2 _ rfl⟩
theorem vo_sp3 {W : World} {g : Nat} {a b c d e f p q r : Int} (h : ∀ k v, #[Value.int .i64 a, .int .i64 b, .int .i64 c, .int .i64 d, .int .i64 e, .int .i64 f, .int .i64 p, .int .i64 q, .int .i64 r][k]? = some v → W.cell? ⟨g, k, none⟩ = some v) : SpV W (.slice (some ⟨g, 0, none⟩) 3 3) [(a, b, c), (d, e, f), (p, q, r)] := by
  refine ⟨_, 3, rfl, fun k hk => ?_, by simp⟩
  rcases (show k = 0 ∨ k = 1 ∨ k = 2 by have : k < 3 := hk; omega) with rfl | rfl | rfl
  · exact ⟨g, 0, rfl, h 0 _ rfl, h 1 _ rfl, h 2 _ rfl⟩
  · exact ⟨g, 0, rfl, h 3 _ rfl, h 4 _ rfl, h 5 _ rfl⟩
  · exact ⟨g, 0, rfl, h 6 _ rfl, h 7 _ rfl, h 8 _ rfl⟩
theorem vo_mp1 {W : World} {g q : Nat} {a : Int} {l : List Int} (h : ∀ k v, #[Value.int .i64 a, .slice (some ⟨q, 0, none⟩) l.length l.length][k]? = some v → W.cell? ⟨g, k, none⟩ = some v) (hl : IntsIn W (some ⟨q, 0, none⟩) l) (hn : l.length ≤ 100) : MpV W (.slice (some ⟨g, 0, none⟩) 1 1) [(a, l)] := by
  refine ⟨_, 1, rfl, fun k hk => ?_, by simp⟩
  obtain rfl : k = 0 := by have : k < 1 := hk; omega
  exact ⟨g, 0, _, rfl, h 0 _ rfl, h 1 _ rfl, ⟨_, _, rfl, hl, Nat.le_trans hn (by decide)⟩⟩

set_option maxRecDepth 100000 in
set_option maxHeartbeats 8000000 in
theorem validOrder_walk (n0 : Int) (w : World)  (hr : Rsv w) :
    Calls Tryz.prog 8 #[.int .i64 n0] w (Gives (.bool true) w) := by
  have HR := Lib.hid hr
  clear hr
  have b0 : Below w.heap.size w w := Below.refl _ _
  have b1 := b0.alloc b0.size (.cells #[.int .i64 769, .int .i64 769, .int .i64 2] 45)
  have b2 := b1.alloc b1.size (.cells #[.int .i64 769, .int .i64 769, .int .i64 230] 45)
  have b3 := b2.alloc b2.size (.cells #[.int .i64 183, .int .i64 183, .int .i64 1, .int .i64 769, .int .i64 769, .int .i64 1, .int .i64 8205, .int .i64 8205, .int .i64 4] 45)
  have b4 := b3.alloc b3.size (.cells #[.int .i64 97, .int .i64 769] 3)
  have b5 := b4.alloc b4.size (.cells #[.int .i64 225, .slice (some ⟨w.heap.size + 1 + 1 + 1, 0, none⟩) 2 2] 47)
  have b6 := b5.alloc b5.size (.cells (tabCells (voX w.heap.size)) 26)
  have z1 : (w.alloc (.cells #[.int .i64 769, .int .i64 769, .int .i64 2] 45)).heap.size = w.heap.size + 1 := by simp
  have z2 : ((w.alloc (.cells #[.int .i64 769, .int .i64 769, .int .i64 2] 45)).alloc (.cells #[.int .i64 769, .int .i64 769, .int .i64 230] 45)).heap.size = w.heap.size + 1 + 1 := by simp
  have z3 : (((w.alloc (.cells #[.int .i64 769, .int .i64 769, .int .i64 2] 45)).alloc (.cells #[.int .i64 769, .int .i64 769, .int .i64 230] 45)).alloc (.cells #[.int .i64 183, .int .i64 183, .int .i64 1, .int .i64 769, .int .i64 769, .int .i64 1, .int .i64 8205, .int .i64 8205, .int .i64 4] 45)).heap.size = w.heap.size + 1 + 1 + 1 := by simp
  have z4 : ((((w.alloc (.cells #[.int .i64 769, .int .i64 769, .int .i64 2] 45)).alloc (.cells #[.int .i64 769, .int .i64 769, .int .i64 230] 45)).alloc (.cells #[.int .i64 183, .int .i64 183, .int .i64 1, .int .i64 769, .int .i64 769, .int .i64 1, .int .i64 8205, .int .i64 8205, .int .i64 4] 45)).alloc (.cells #[.int .i64 97, .int .i64 769] 3)).heap.size = w.heap.size + 1 + 1 + 1 + 1 := by simp
  have z5 : (((((w.alloc (.cells #[.int .i64 769, .int .i64 769, .int .i64 2] 45)).alloc (.cells #[.int .i64 769, .int .i64 769, .int .i64 230] 45)).alloc (.cells #[.int .i64 183, .int .i64 183, .int .i64 1, .int .i64 769, .int .i64 769, .int .i64 1, .int .i64 8205, .int .i64 8205, .int .i64 4] 45)).alloc (.cells #[.int .i64 97, .int .i64 769] 3)).alloc (.cells #[.int .i64 225, .slice (some ⟨w.heap.size + 1 + 1 + 1, 0, none⟩) 2 2] 47)).heap.size = w.heap.size + 1 + 1 + 1 + 1 + 1 := by simp
  have c0 := lit_cellsV w #[.int .i64 769, .int .i64 769, .int .i64 2] 45
  have c1 := lit_cellsV (w.alloc (.cells #[.int .i64 769, .int .i64 769, .int .i64 2] 45)) #[.int .i64 769, .int .i64 769, .int .i64 230] 45
  rw [z1] at c1
  have c2 := lit_cellsV ((w.alloc (.cells #[.int .i64 769, .int .i64 769, .int .i64 2] 45)).alloc (.cells #[.int .i64 769, .int .i64 769, .int .i64 230] 45)) #[.int .i64 183, .int .i64 183, .int .i64 1, .int .i64 769, .int .i64 769, .int .i64 1, .int .i64 8205, .int .i64 8205, .int .i64 4] 45
  rw [z2] at c2
  have c3 := lit_ints (((w.alloc (.cells #[.int .i64 769, .int .i64 769, .int .i64 2] 45)).alloc (.cells #[.int .i64 769, .int .i64 769, .int .i64 230] 45)).alloc (.cells #[.int .i64 183, .int .i64 183, .int .i64 1, .int .i64 769, .int .i64 769, .int .i64 1, .int .i64 8205, .int .i64 8205, .int .i64 4] 45)) #[.int .i64 97, .int .i64 769] [97, 769] 3 rfl
  rw [z3] at c3
  have c4 := lit_cellsV ((((w.alloc (.cells #[.int .i64 769, .int .i64 769, .int .i64 2] 45)).alloc (.cells #[.int .i64 769, .int .i64 769, .int .i64 230] 45)).alloc (.cells #[.int .i64 183, .int .i64 183, .int .i64 1, .int .i64 769, .int .i64 769, .int .i64 1, .int .i64 8205, .int .i64 8205, .int .i64 4] 45)).alloc (.cells #[.int .i64 97, .int .i64 769] 3)) #[.int .i64 225, .slice (some ⟨w.heap.size + 1 + 1 + 1, 0, none⟩) 2 2] 47
  rw [z4] at c4
  have d5 := (Below.refl (((((w.alloc (.cells #[.int .i64 769, .int .i64 769, .int .i64 2] 45)).alloc (.cells #[.int .i64 769, .int .i64 769, .int .i64 230] 45)).alloc (.cells #[.int .i64 183, .int .i64 183, .int .i64 1, .int .i64 769, .int .i64 769, .int .i64 1, .int .i64 8205, .int .i64 8205, .int .i64 4] 45)).alloc (.cells #[.int .i64 97, .int .i64 769] 3)).alloc (.cells #[.int .i64 225, .slice (some ⟨w.heap.size + 1 + 1 + 1, 0, none⟩) 2 2] 47)).heap.size (((((w.alloc (.cells #[.int .i64 769, .int .i64 769, .int .i64 2] 45)).alloc (.cells #[.int .i64 769, .int .i64 769, .int .i64 230] 45)).alloc (.cells #[.int .i64 183, .int .i64 183, .int .i64 1, .int .i64 769, .int .i64 769, .int .i64 1, .int .i64 8205, .int .i64 8205, .int .i64 4] 45)).alloc (.cells #[.int .i64 97, .int .i64 769] 3)).alloc (.cells #[.int .i64 225, .slice (some ⟨w.heap.size + 1 + 1 + 1, 0, none⟩) 2 2] 47))).alloc (Nat.le_refl _) (.cells (tabCells (voX w.heap.size)) 26)
  have d4 := ((Below.refl ((((w.alloc (.cells #[.int .i64 769, .int .i64 769, .int .i64 2] 45)).alloc (.cells #[.int .i64 769, .int .i64 769, .int .i64 230] 45)).alloc (.cells #[.int .i64 183, .int .i64 183, .int .i64 1, .int .i64 769, .int .i64 769, .int .i64 1, .int .i64 8205, .int .i64 8205, .int .i64 4] 45)).alloc (.cells #[.int .i64 97, .int .i64 769] 3)).heap.size ((((w.alloc (.cells #[.int .i64 769, .int .i64 769, .int .i64 2] 45)).alloc (.cells #[.int .i64 769, .int .i64 769, .int .i64 230] 45)).alloc (.cells #[.int .i64 183, .int .i64 183, .int .i64 1, .int .i64 769, .int .i64 769, .int .i64 1, .int .i64 8205, .int .i64 8205, .int .i64 4] 45)).alloc (.cells #[.int .i64 97, .int .i64 769] 3))).alloc (Nat.le_refl _) (.cells #[.int .i64 225, .slice (some ⟨w.heap.size + 1 + 1 + 1, 0, none⟩) 2 2] 47)).trans (d5.mono (by simp))
  have d3 := ((Below.refl (((w.alloc (.cells #[.int .i64 769, .int .i64 769, .int .i64 2] 45)).alloc (.cells #[.int .i64 769, .int .i64 769, .int .i64 230] 45)).alloc (.cells #[.int .i64 183, .int .i64 183, .int .i64 1, .int .i64 769, .int .i64 769, .int .i64 1, .int .i64 8205, .int .i64 8205, .int .i64 4] 45)).heap.size (((w.alloc (.cells #[.int .i64 769, .int .i64 769, .int .i64 2] 45)).alloc (.cells #[.int .i64 769, .int .i64 769, .int .i64 230] 45)).alloc (.cells #[.int .i64 183, .int .i64 183, .int .i64 1, .int .i64 769, .int .i64 769, .int .i64 1, .int .i64 8205, .int .i64 8205, .int .i64 4] 45))).alloc (Nat.le_refl _) (.cells #[.int .i64 97, .int .i64 769] 3)).trans (d4.mono (by simp))
  have d2 := ((Below.refl ((w.alloc (.cells #[.int .i64 769, .int .i64 769, .int .i64 2] 45)).alloc (.cells #[.int .i64 769, .int .i64 769, .int .i64 230] 45)).heap.size ((w.alloc (.cells #[.int .i64 769, .int .i64 769, .int .i64 2] 45)).alloc (.cells #[.int .i64 769, .int .i64 769, .int .i64 230] 45))).alloc (Nat.le_refl _) (.cells #[.int .i64 183, .int .i64 183, .int .i64 1, .int .i64 769, .int .i64 769, .int .i64 1, .int .i64 8205, .int .i64 8205, .int .i64 4] 45)).trans (d3.mono (by simp))
  have d1 := ((Below.refl (w.alloc (.cells #[.int .i64 769, .int .i64 769, .int .i64 2] 45)).heap.size (w.alloc (.cells #[.int .i64 769, .int .i64 769, .int .i64 2] 45))).alloc (Nat.le_refl _) (.cells #[.int .i64 769, .int .i64 769, .int .i64 230] 45)).trans (d2.mono (by simp))
  have f0 := cells_belowV c0 d1
  have f1 := cells_belowV c1 d2
  have f2 := cells_belowV c2 d3
  have f3 := RowIn.below c3 d4
  have f4 := cells_belowV c4 d5
  have HT1 : Hid (TabV ((((((w.alloc (.cells #[.int .i64 769, .int .i64 769, .int .i64 2] 45)).alloc (.cells #[.int .i64 769, .int .i64 769, .int .i64 230] 45)).alloc (.cells #[.int .i64 183, .int .i64 183, .int .i64 1, .int .i64 769, .int .i64 769, .int .i64 1, .int .i64 8205, .int .i64 8205, .int .i64 4] 45)).alloc (.cells #[.int .i64 97, .int .i64 769] 3)).alloc (.cells #[.int .i64 225, .slice (some ⟨w.heap.size + 1 + 1 + 1, 0, none⟩) 2 2] 47)).alloc (.cells (tabCells (voX w.heap.size)) 26)) (voX w.heap.size) voT) :=
    ⟨vo_sp1 f0, vo_sp1 f1, vn_sp _, vn_sp _, vn_sp _, vo_sp3 f2, vn_sp _, vn_mp _, vn_mp _, vo_mp1 (l := [97, 769]) f4 f3 (by decide), vn_in _, vn_mp _⟩
  have hx := BoxT.new (((((w.alloc (.cells #[.int .i64 769, .int .i64 769, .int .i64 2] 45)).alloc (.cells #[.int .i64 769, .int .i64 769, .int .i64 230] 45)).alloc (.cells #[.int .i64 183, .int .i64 183, .int .i64 1, .int .i64 769, .int .i64 769, .int .i64 1, .int .i64 8205, .int .i64 8205, .int .i64 4] 45)).alloc (.cells #[.int .i64 97, .int .i64 769] 3)).alloc (.cells #[.int .i64 225, .slice (some ⟨w.heap.size + 1 + 1 + 1, 0, none⟩) 2 2] 47)) (voX w.heap.size) 26
  rw [z5] at hx
  have HX1 := Lib.hid hx
  have HB1 := Lib.hid b6
  clear b0 b1 b2 b3 b4 b5 b6 z1 z2 z3 z4 z5 c0 c1 c2 c3 c4 d1 d2 d3 d4 d5 f0 f1 f2 f3 f4 hx
  simp only [tabCells, voX] at HT1 HX1 HB1
  go_enter Tryz.func8, Tryz.ntmps8
  obtain ⟨j0, HJ, hj6⟩ := pickN_nm n0 6 (by omega)
  go_wp2_with fail
  generalize ((((((w.alloc (.cells #[.int .i64 769, .int .i64 769, .int .i64 2] 45)).alloc (.cells #[.int .i64 769, .int .i64 769, .int .i64 230] 45)).alloc (.cells #[.int .i64 183, .int .i64 183, .int .i64 1, .int .i64 769, .int .i64 769, .int .i64 1, .int .i64 8205, .int .i64 8205, .int .i64 4] 45)).alloc (.cells #[.int .i64 97, .int .i64 769] 3)).alloc (.cells #[.int .i64 225, .slice (some ⟨w.heap.size + 1 + 1 + 1, 0, none⟩) 2 2] 47)).alloc (.cells #[.slice (some ⟨w.heap.size, 0, none⟩) 1 1, .slice (some ⟨w.heap.size + 1, 0, none⟩) 1 1, .slice none 0 0, .slice none 0 0, .slice none 0 0, .slice (some ⟨w.heap.size + 1 + 1, 0, none⟩) 3 3, .slice none 0 0, .slice none 0 0, .slice none 0 0, .slice (some ⟨w.heap.size + 1 + 1 + 1 + 1, 0, none⟩) 1 1, .slice none 0 0, .slice none 0 0] 26)) = W at HT1 HX1 HB1 ⊢
  generalize w.heap.size + 1 + 1 + 1 + 1 + 1 = g at HX1 ⊢
  generalize (⟨.slice (some ⟨w.heap.size, 0, none⟩) 1 1, .slice (some ⟨w.heap.size + 1, 0, none⟩) 1 1, .slice none 0 0, .slice none 0 0, .slice none 0 0, .slice (some ⟨w.heap.size + 1 + 1, 0, none⟩) 3 3, .slice none 0 0, .slice none 0 0, .slice none 0 0, .slice (some ⟨w.heap.size + 1 + 1 + 1 + 1, 0, none⟩) 1 1, .slice none 0 0, .slice none 0 0⟩ : TV) = x at HT1 HX1
  have HE : Hid (LEnv w g x voT W) := ⟨HT1.out, HX1.out, HB1.out⟩
  clear HT1 HX1 HB1
  refine (pickN_at n0 6 j0 _ (by omega) (by omega) HJ).mono ?_
  rintro e w2 ⟨rfl, rfl⟩
  clear HJ
  rcases (show j0 = 0 ∨ j0 = 1 ∨ j0 = 2 ∨ j0 = 3 ∨ j0 = 4 ∨ j0 = 5 by omega) with rfl | rfl | rfl | rfl | rfl | rfl
  · have b0 : Below W.heap.size W W := Below.refl _ _
    have b1 := b0.alloc b0.size (.cells #[.int .i64 97, .int .i64 769, .int .i64 45] 3)
    have b2 := b1.alloc b1.size (.cells #[.int .i64 769, .int .i64 45] 3)
    have b3 := b2.alloc b2.size (.cells #[.int .i64 769, .int .i64 32] 3)
    have b4 := b3.alloc b3.size (.cells #[.int .i64 98, .int .i64 32, .int .i64 8205] 3)
    have b5 := b4.alloc b4.size (.cells #[.int .i64 98, .int .i64 8205, .int .i64 183] 3)
    have b6 := b5.alloc b5.size (.cells #[.int .i64 98, .int .i64 183] 3)
    have b7 := b6.alloc b6.size (.cells #[.slice (some ⟨W.heap.size, 0, none⟩) 3 3, .slice (some ⟨W.heap.size + 1, 0, none⟩) 2 2, .slice (some ⟨W.heap.size + 1 + 1, 0, none⟩) 2 2, .slice (some ⟨W.heap.size + 1 + 1 + 1, 0, none⟩) 3 3, .slice (some ⟨W.heap.size + 1 + 1 + 1 + 1, 0, none⟩) 3 3, .slice (some ⟨W.heap.size + 1 + 1 + 1 + 1 + 1, 0, none⟩) 2 2] 22)
    have b8 := b7.alloc b7.size (.cells #[.int .i64 13, .int .i64 14, .int .i64 15, .int .i64 16, .int .i64 17, .int .i64 18] 30)
    have c0 := lit_ints W #[.int .i64 97, .int .i64 769, .int .i64 45] [97, 769, 45] 3 rfl
    have d0 : Below (W.alloc (.cells #[.int .i64 97, .int .i64 769, .int .i64 45] 3)).heap.size (W.alloc (.cells #[.int .i64 97, .int .i64 769, .int .i64 45] 3)) (W.alloc (.cells #[.int .i64 97, .int .i64 769, .int .i64 45] 3)) := Below.refl _ _
    have d1 := d0.alloc d0.size (.cells #[.int .i64 769, .int .i64 45] 3)
    have d2 := d1.alloc d1.size (.cells #[.int .i64 769, .int .i64 32] 3)
    have d3 := d2.alloc d2.size (.cells #[.int .i64 98, .int .i64 32, .int .i64 8205] 3)
    have d4 := d3.alloc d3.size (.cells #[.int .i64 98, .int .i64 8205, .int .i64 183] 3)
    have d5 := d4.alloc d4.size (.cells #[.int .i64 98, .int .i64 183] 3)
    have d6 := d5.alloc d5.size (.cells #[.slice (some ⟨W.heap.size, 0, none⟩) 3 3, .slice (some ⟨W.heap.size + 1, 0, none⟩) 2 2, .slice (some ⟨W.heap.size + 1 + 1, 0, none⟩) 2 2, .slice (some ⟨W.heap.size + 1 + 1 + 1, 0, none⟩) 3 3, .slice (some ⟨W.heap.size + 1 + 1 + 1 + 1, 0, none⟩) 3 3, .slice (some ⟨W.heap.size + 1 + 1 + 1 + 1 + 1, 0, none⟩) 2 2] 22)
    have d7 := d6.alloc d6.size (.cells #[.int .i64 13, .int .i64 14, .int .i64 15, .int .i64 16, .int .i64 17, .int .i64 18] 30)
    have HI := Lib.hid (RowIn.below c0 d7)
    replace HE := Lib.hid (HE.out.step b8)
    clear b0 b1 b2 b3 b4 b5 b6 b7 b8 c0 d0 d1 d2 d3 d4 d5 d6 d7
    go_wp2_with fail
    refine (awake17_any _ (HR.out.below HE.out.bel)).mono ?_
    rintro e w5 ⟨rfl, hb⟩
    replace HI := Lib.hid (HI.out.below hb)
    replace HE := Lib.hid (HE.out.step hb)
    clear hb
    obtain ⟨⟨k0, k1, k2, k3, k4, k5⟩, ⟨k6, k7, k8, k9, k10, k11⟩⟩ := HE.out.box.load
    go_wp2_with fail
    refine (vchk_at x voT _ 3 [97, 769, 45] 13 _ HE.out.tab (HR.out.below HE.out.bel) HI.out (by simp) (Lib.hid vo1)).mono ?_
    rintro e w6 ⟨rfl, hb⟩
    have HBZ := Lib.hid (HE.out.step hb).bel
    clear hb k0 k1 k2 k3 k4 k5 k6 k7 k8 k9 k10 k11
    go_wp2
    go_ret
    exact ⟨rfl, HBZ.out⟩
  · have b0 : Below W.heap.size W W := Below.refl _ _
    have b1 := b0.alloc b0.size (.cells #[.int .i64 97, .int .i64 769, .int .i64 45] 3)
    have b2 := b1.alloc b1.size (.cells #[.int .i64 769, .int .i64 45] 3)
    have b3 := b2.alloc b2.size (.cells #[.int .i64 769, .int .i64 32] 3)
    have b4 := b3.alloc b3.size (.cells #[.int .i64 98, .int .i64 32, .int .i64 8205] 3)
    have b5 := b4.alloc b4.size (.cells #[.int .i64 98, .int .i64 8205, .int .i64 183] 3)
    have b6 := b5.alloc b5.size (.cells #[.int .i64 98, .int .i64 183] 3)
    have b7 := b6.alloc b6.size (.cells #[.slice (some ⟨W.heap.size, 0, none⟩) 3 3, .slice (some ⟨W.heap.size + 1, 0, none⟩) 2 2, .slice (some ⟨W.heap.size + 1 + 1, 0, none⟩) 2 2, .slice (some ⟨W.heap.size + 1 + 1 + 1, 0, none⟩) 3 3, .slice (some ⟨W.heap.size + 1 + 1 + 1 + 1, 0, none⟩) 3 3, .slice (some ⟨W.heap.size + 1 + 1 + 1 + 1 + 1, 0, none⟩) 2 2] 22)
    have b8 := b7.alloc b7.size (.cells #[.int .i64 13, .int .i64 14, .int .i64 15, .int .i64 16, .int .i64 17, .int .i64 18] 30)
    have z1 : (W.alloc (.cells #[.int .i64 97, .int .i64 769, .int .i64 45] 3)).heap.size = W.heap.size + 1 := by simp
    have c0 := lit_ints (W.alloc (.cells #[.int .i64 97, .int .i64 769, .int .i64 45] 3)) #[.int .i64 769, .int .i64 45] [769, 45] 3 rfl
    rw [z1] at c0
    have d0 : Below ((W.alloc (.cells #[.int .i64 97, .int .i64 769, .int .i64 45] 3)).alloc (.cells #[.int .i64 769, .int .i64 45] 3)).heap.size ((W.alloc (.cells #[.int .i64 97, .int .i64 769, .int .i64 45] 3)).alloc (.cells #[.int .i64 769, .int .i64 45] 3)) ((W.alloc (.cells #[.int .i64 97, .int .i64 769, .int .i64 45] 3)).alloc (.cells #[.int .i64 769, .int .i64 45] 3)) := Below.refl _ _
    have d1 := d0.alloc d0.size (.cells #[.int .i64 769, .int .i64 32] 3)
    have d2 := d1.alloc d1.size (.cells #[.int .i64 98, .int .i64 32, .int .i64 8205] 3)
    have d3 := d2.alloc d2.size (.cells #[.int .i64 98, .int .i64 8205, .int .i64 183] 3)
    have d4 := d3.alloc d3.size (.cells #[.int .i64 98, .int .i64 183] 3)
    have d5 := d4.alloc d4.size (.cells #[.slice (some ⟨W.heap.size, 0, none⟩) 3 3, .slice (some ⟨W.heap.size + 1, 0, none⟩) 2 2, .slice (some ⟨W.heap.size + 1 + 1, 0, none⟩) 2 2, .slice (some ⟨W.heap.size + 1 + 1 + 1, 0, none⟩) 3 3, .slice (some ⟨W.heap.size + 1 + 1 + 1 + 1, 0, none⟩) 3 3, .slice (some ⟨W.heap.size + 1 + 1 + 1 + 1 + 1, 0, none⟩) 2 2] 22)
    have d6 := d5.alloc d5.size (.cells #[.int .i64 13, .int .i64 14, .int .i64 15, .int .i64 16, .int .i64 17, .int .i64 18] 30)
    have HI := Lib.hid (RowIn.below c0 d6)
    replace HE := Lib.hid (HE.out.step b8)
    clear b0 b1 b2 b3 b4 b5 b6 b7 b8 c0 d0 d1 d2 d3 d4 d5 d6 z1
    go_wp2_with fail
    refine (awake17_any _ (HR.out.below HE.out.bel)).mono ?_
    rintro e w5 ⟨rfl, hb⟩
    replace HI := Lib.hid (HI.out.below hb)
    replace HE := Lib.hid (HE.out.step hb)
    clear hb
    obtain ⟨⟨k0, k1, k2, k3, k4, k5⟩, ⟨k6, k7, k8, k9, k10, k11⟩⟩ := HE.out.box.load
    go_wp2_with fail
    refine (vchk_at x voT _ 2 [769, 45] 14 _ HE.out.tab (HR.out.below HE.out.bel) HI.out (by simp) (Lib.hid vo2)).mono ?_
    rintro e w6 ⟨rfl, hb⟩
    have HBZ := Lib.hid (HE.out.step hb).bel
    clear hb k0 k1 k2 k3 k4 k5 k6 k7 k8 k9 k10 k11
    go_wp2
    go_ret
    exact ⟨rfl, HBZ.out⟩
  · have b0 : Below W.heap.size W W := Below.refl _ _
    have b1 := b0.alloc b0.size (.cells #[.int .i64 97, .int .i64 769, .int .i64 45] 3)
    have b2 := b1.alloc b1.size (.cells #[.int .i64 769, .int .i64 45] 3)
    have b3 := b2.alloc b2.size (.cells #[.int .i64 769, .int .i64 32] 3)
    have b4 := b3.alloc b3.size (.cells #[.int .i64 98, .int .i64 32, .int .i64 8205] 3)
    have b5 := b4.alloc b4.size (.cells #[.int .i64 98, .int .i64 8205, .int .i64 183] 3)
    have b6 := b5.alloc b5.size (.cells #[.int .i64 98, .int .i64 183] 3)
    have b7 := b6.alloc b6.size (.cells #[.slice (some ⟨W.heap.size, 0, none⟩) 3 3, .slice (some ⟨W.heap.size + 1, 0, none⟩) 2 2, .slice (some ⟨W.heap.size + 1 + 1, 0, none⟩) 2 2, .slice (some ⟨W.heap.size + 1 + 1 + 1, 0, none⟩) 3 3, .slice (some ⟨W.heap.size + 1 + 1 + 1 + 1, 0, none⟩) 3 3, .slice (some ⟨W.heap.size + 1 + 1 + 1 + 1 + 1, 0, none⟩) 2 2] 22)
    have b8 := b7.alloc b7.size (.cells #[.int .i64 13, .int .i64 14, .int .i64 15, .int .i64 16, .int .i64 17, .int .i64 18] 30)
    have z2 : ((W.alloc (.cells #[.int .i64 97, .int .i64 769, .int .i64 45] 3)).alloc (.cells #[.int .i64 769, .int .i64 45] 3)).heap.size = W.heap.size + 1 + 1 := by simp
    have c0 := lit_ints ((W.alloc (.cells #[.int .i64 97, .int .i64 769, .int .i64 45] 3)).alloc (.cells #[.int .i64 769, .int .i64 45] 3)) #[.int .i64 769, .int .i64 32] [769, 32] 3 rfl
    rw [z2] at c0
    have d0 : Below (((W.alloc (.cells #[.int .i64 97, .int .i64 769, .int .i64 45] 3)).alloc (.cells #[.int .i64 769, .int .i64 45] 3)).alloc (.cells #[.int .i64 769, .int .i64 32] 3)).heap.size (((W.alloc (.cells #[.int .i64 97, .int .i64 769, .int .i64 45] 3)).alloc (.cells #[.int .i64 769, .int .i64 45] 3)).alloc (.cells #[.int .i64 769, .int .i64 32] 3)) (((W.alloc (.cells #[.int .i64 97, .int .i64 769, .int .i64 45] 3)).alloc (.cells #[.int .i64 769, .int .i64 45] 3)).alloc (.cells #[.int .i64 769, .int .i64 32] 3)) := Below.refl _ _
    have d1 := d0.alloc d0.size (.cells #[.int .i64 98, .int .i64 32, .int .i64 8205] 3)
    have d2 := d1.alloc d1.size (.cells #[.int .i64 98, .int .i64 8205, .int .i64 183] 3)
    have d3 := d2.alloc d2.size (.cells #[.int .i64 98, .int .i64 183] 3)
    have d4 := d3.alloc d3.size (.cells #[.slice (some ⟨W.heap.size, 0, none⟩) 3 3, .slice (some ⟨W.heap.size + 1, 0, none⟩) 2 2, .slice (some ⟨W.heap.size + 1 + 1, 0, none⟩) 2 2, .slice (some ⟨W.heap.size + 1 + 1 + 1, 0, none⟩) 3 3, .slice (some ⟨W.heap.size + 1 + 1 + 1 + 1, 0, none⟩) 3 3, .slice (some ⟨W.heap.size + 1 + 1 + 1 + 1 + 1, 0, none⟩) 2 2] 22)
    have d5 := d4.alloc d4.size (.cells #[.int .i64 13, .int .i64 14, .int .i64 15, .int .i64 16, .int .i64 17, .int .i64 18] 30)
    have HI := Lib.hid (RowIn.below c0 d5)
    replace HE := Lib.hid (HE.out.step b8)
    clear b0 b1 b2 b3 b4 b5 b6 b7 b8 c0 d0 d1 d2 d3 d4 d5 z2
    go_wp2_with fail
    refine (awake17_any _ (HR.out.below HE.out.bel)).mono ?_
    rintro e w5 ⟨rfl, hb⟩
    replace HI := Lib.hid (HI.out.below hb)
    replace HE := Lib.hid (HE.out.step hb)
    clear hb
    obtain ⟨⟨k0, k1, k2, k3, k4, k5⟩, ⟨k6, k7, k8, k9, k10, k11⟩⟩ := HE.out.box.load
    go_wp2_with fail
    refine (vchk_at x voT _ 2 [769, 32] 15 _ HE.out.tab (HR.out.below HE.out.bel) HI.out (by simp) (Lib.hid vo3)).mono ?_
    rintro e w6 ⟨rfl, hb⟩
    have HBZ := Lib.hid (HE.out.step hb).bel
    clear hb k0 k1 k2 k3 k4 k5 k6 k7 k8 k9 k10 k11
    go_wp2
    go_ret
    exact ⟨rfl, HBZ.out⟩
  · have b0 : Below W.heap.size W W := Below.refl _ _
    have b1 := b0.alloc b0.size (.cells #[.int .i64 97, .int .i64 769, .int .i64 45] 3)
    have b2 := b1.alloc b1.size (.cells #[.int .i64 769, .int .i64 45] 3)
    have b3 := b2.alloc b2.size (.cells #[.int .i64 769, .int .i64 32] 3)
    have b4 := b3.alloc b3.size (.cells #[.int .i64 98, .int .i64 32, .int .i64 8205] 3)
    have b5 := b4.alloc b4.size (.cells #[.int .i64 98, .int .i64 8205, .int .i64 183] 3)
    have b6 := b5.alloc b5.size (.cells #[.int .i64 98, .int .i64 183] 3)
    have b7 := b6.alloc b6.size (.cells #[.slice (some ⟨W.heap.size, 0, none⟩) 3 3, .slice (some ⟨W.heap.size + 1, 0, none⟩) 2 2, .slice (some ⟨W.heap.size + 1 + 1, 0, none⟩) 2 2, .slice (some ⟨W.heap.size + 1 + 1 + 1, 0, none⟩) 3 3, .slice (some ⟨W.heap.size + 1 + 1 + 1 + 1, 0, none⟩) 3 3, .slice (some ⟨W.heap.size + 1 + 1 + 1 + 1 + 1, 0, none⟩) 2 2] 22)
    have b8 := b7.alloc b7.size (.cells #[.int .i64 13, .int .i64 14, .int .i64 15, .int .i64 16, .int .i64 17, .int .i64 18] 30)
    have z3 : (((W.alloc (.cells #[.int .i64 97, .int .i64 769, .int .i64 45] 3)).alloc (.cells #[.int .i64 769, .int .i64 45] 3)).alloc (.cells #[.int .i64 769, .int .i64 32] 3)).heap.size = W.heap.size + 1 + 1 + 1 := by simp
    have c0 := lit_ints (((W.alloc (.cells #[.int .i64 97, .int .i64 769, .int .i64 45] 3)).alloc (.cells #[.int .i64 769, .int .i64 45] 3)).alloc (.cells #[.int .i64 769, .int .i64 32] 3)) #[.int .i64 98, .int .i64 32, .int .i64 8205] [98, 32, 8205] 3 rfl
    rw [z3] at c0
    have d0 : Below ((((W.alloc (.cells #[.int .i64 97, .int .i64 769, .int .i64 45] 3)).alloc (.cells #[.int .i64 769, .int .i64 45] 3)).alloc (.cells #[.int .i64 769, .int .i64 32] 3)).alloc (.cells #[.int .i64 98, .int .i64 32, .int .i64 8205] 3)).heap.size ((((W.alloc (.cells #[.int .i64 97, .int .i64 769, .int .i64 45] 3)).alloc (.cells #[.int .i64 769, .int .i64 45] 3)).alloc (.cells #[.int .i64 769, .int .i64 32] 3)).alloc (.cells #[.int .i64 98, .int .i64 32, .int .i64 8205] 3)) ((((W.alloc (.cells #[.int .i64 97, .int .i64 769, .int .i64 45] 3)).alloc (.cells #[.int .i64 769, .int .i64 45] 3)).alloc (.cells #[.int .i64 769, .int .i64 32] 3)).alloc (.cells #[.int .i64 98, .int .i64 32, .int .i64 8205] 3)) := Below.refl _ _
    have d1 := d0.alloc d0.size (.cells #[.int .i64 98, .int .i64 8205, .int .i64 183] 3)
    have d2 := d1.alloc d1.size (.cells #[.int .i64 98, .int .i64 183] 3)
    have d3 := d2.alloc d2.size (.cells #[.slice (some ⟨W.heap.size, 0, none⟩) 3 3, .slice (some ⟨W.heap.size + 1, 0, none⟩) 2 2, .slice (some ⟨W.heap.size + 1 + 1, 0, none⟩) 2 2, .slice (some ⟨W.heap.size + 1 + 1 + 1, 0, none⟩) 3 3, .slice (some ⟨W.heap.size + 1 + 1 + 1 + 1, 0, none⟩) 3 3, .slice (some ⟨W.heap.size + 1 + 1 + 1 + 1 + 1, 0, none⟩) 2 2] 22)
    have d4 := d3.alloc d3.size (.cells #[.int .i64 13, .int .i64 14, .int .i64 15, .int .i64 16, .int .i64 17, .int .i64 18] 30)
    have HI := Lib.hid (RowIn.below c0 d4)
    replace HE := Lib.hid (HE.out.step b8)
    clear b0 b1 b2 b3 b4 b5 b6 b7 b8 c0 d0 d1 d2 d3 d4 z3
    go_wp2_with fail
    refine (awake17_any _ (HR.out.below HE.out.bel)).mono ?_
    rintro e w5 ⟨rfl, hb⟩
    replace HI := Lib.hid (HI.out.below hb)
    replace HE := Lib.hid (HE.out.step hb)
    clear hb
    obtain ⟨⟨k0, k1, k2, k3, k4, k5⟩, ⟨k6, k7, k8, k9, k10, k11⟩⟩ := HE.out.box.load
    go_wp2_with fail
    refine (vchk_at x voT _ 3 [98, 32, 8205] 16 _ HE.out.tab (HR.out.below HE.out.bel) HI.out (by simp) (Lib.hid vo4)).mono ?_
    rintro e w6 ⟨rfl, hb⟩
    have HBZ := Lib.hid (HE.out.step hb).bel
    clear hb k0 k1 k2 k3 k4 k5 k6 k7 k8 k9 k10 k11
    go_wp2
    go_ret
    exact ⟨rfl, HBZ.out⟩
  · have b0 : Below W.heap.size W W := Below.refl _ _
    have b1 := b0.alloc b0.size (.cells #[.int .i64 97, .int .i64 769, .int .i64 45] 3)
    have b2 := b1.alloc b1.size (.cells #[.int .i64 769, .int .i64 45] 3)
    have b3 := b2.alloc b2.size (.cells #[.int .i64 769, .int .i64 32] 3)
    have b4 := b3.alloc b3.size (.cells #[.int .i64 98, .int .i64 32, .int .i64 8205] 3)
    have b5 := b4.alloc b4.size (.cells #[.int .i64 98, .int .i64 8205, .int .i64 183] 3)
    have b6 := b5.alloc b5.size (.cells #[.int .i64 98, .int .i64 183] 3)
    have b7 := b6.alloc b6.size (.cells #[.slice (some ⟨W.heap.size, 0, none⟩) 3 3, .slice (some ⟨W.heap.size + 1, 0, none⟩) 2 2, .slice (some ⟨W.heap.size + 1 + 1, 0, none⟩) 2 2, .slice (some ⟨W.heap.size + 1 + 1 + 1, 0, none⟩) 3 3, .slice (some ⟨W.heap.size + 1 + 1 + 1 + 1, 0, none⟩) 3 3, .slice (some ⟨W.heap.size + 1 + 1 + 1 + 1 + 1, 0, none⟩) 2 2] 22)
    have b8 := b7.alloc b7.size (.cells #[.int .i64 13, .int .i64 14, .int .i64 15, .int .i64 16, .int .i64 17, .int .i64 18] 30)
    have z4 : ((((W.alloc (.cells #[.int .i64 97, .int .i64 769, .int .i64 45] 3)).alloc (.cells #[.int .i64 769, .int .i64 45] 3)).alloc (.cells #[.int .i64 769, .int .i64 32] 3)).alloc (.cells #[.int .i64 98, .int .i64 32, .int .i64 8205] 3)).heap.size = W.heap.size + 1 + 1 + 1 + 1 := by simp
    have c0 := lit_ints ((((W.alloc (.cells #[.int .i64 97, .int .i64 769, .int .i64 45] 3)).alloc (.cells #[.int .i64 769, .int .i64 45] 3)).alloc (.cells #[.int .i64 769, .int .i64 32] 3)).alloc (.cells #[.int .i64 98, .int .i64 32, .int .i64 8205] 3)) #[.int .i64 98, .int .i64 8205, .int .i64 183] [98, 8205, 183] 3 rfl
    rw [z4] at c0
    have d0 : Below (((((W.alloc (.cells #[.int .i64 97, .int .i64 769, .int .i64 45] 3)).alloc (.cells #[.int .i64 769, .int .i64 45] 3)).alloc (.cells #[.int .i64 769, .int .i64 32] 3)).alloc (.cells #[.int .i64 98, .int .i64 32, .int .i64 8205] 3)).alloc (.cells #[.int .i64 98, .int .i64 8205, .int .i64 183] 3)).heap.size (((((W.alloc (.cells #[.int .i64 97, .int .i64 769, .int .i64 45] 3)).alloc (.cells #[.int .i64 769, .int .i64 45] 3)).alloc (.cells #[.int .i64 769, .int .i64 32] 3)).alloc (.cells #[.int .i64 98, .int .i64 32, .int .i64 8205] 3)).alloc (.cells #[.int .i64 98, .int .i64 8205, .int .i64 183] 3)) (((((W.alloc (.cells #[.int .i64 97, .int .i64 769, .int .i64 45] 3)).alloc (.cells #[.int .i64 769, .int .i64 45] 3)).alloc (.cells #[.int .i64 769, .int .i64 32] 3)).alloc (.cells #[.int .i64 98, .int .i64 32, .int .i64 8205] 3)).alloc (.cells #[.int .i64 98, .int .i64 8205, .int .i64 183] 3)) := Below.refl _ _
    have d1 := d0.alloc d0.size (.cells #[.int .i64 98, .int .i64 183] 3)
    have d2 := d1.alloc d1.size (.cells #[.slice (some ⟨W.heap.size, 0, none⟩) 3 3, .slice (some ⟨W.heap.size + 1, 0, none⟩) 2 2, .slice (some ⟨W.heap.size + 1 + 1, 0, none⟩) 2 2, .slice (some ⟨W.heap.size + 1 + 1 + 1, 0, none⟩) 3 3, .slice (some ⟨W.heap.size + 1 + 1 + 1 + 1, 0, none⟩) 3 3, .slice (some ⟨W.heap.size + 1 + 1 + 1 + 1 + 1, 0, none⟩) 2 2] 22)
    have d3 := d2.alloc d2.size (.cells #[.int .i64 13, .int .i64 14, .int .i64 15, .int .i64 16, .int .i64 17, .int .i64 18] 30)
    have HI := Lib.hid (RowIn.below c0 d3)
    replace HE := Lib.hid (HE.out.step b8)
    clear b0 b1 b2 b3 b4 b5 b6 b7 b8 c0 d0 d1 d2 d3 z4
    go_wp2_with fail
    refine (awake17_any _ (HR.out.below HE.out.bel)).mono ?_
    rintro e w5 ⟨rfl, hb⟩
    replace HI := Lib.hid (HI.out.below hb)
    replace HE := Lib.hid (HE.out.step hb)
    clear hb
    obtain ⟨⟨k0, k1, k2, k3, k4, k5⟩, ⟨k6, k7, k8, k9, k10, k11⟩⟩ := HE.out.box.load
    go_wp2_with fail
    refine (vchk_at x voT _ 3 [98, 8205, 183] 17 _ HE.out.tab (HR.out.below HE.out.bel) HI.out (by simp) (Lib.hid vo5)).mono ?_
    rintro e w6 ⟨rfl, hb⟩
    have HBZ := Lib.hid (HE.out.step hb).bel
    clear hb k0 k1 k2 k3 k4 k5 k6 k7 k8 k9 k10 k11
    go_wp2
    go_ret
    exact ⟨rfl, HBZ.out⟩
  · have b0 : Below W.heap.size W W := Below.refl _ _
    have b1 := b0.alloc b0.size (.cells #[.int .i64 97, .int .i64 769, .int .i64 45] 3)
    have b2 := b1.alloc b1.size (.cells #[.int .i64 769, .int .i64 45] 3)
    have b3 := b2.alloc b2.size (.cells #[.int .i64 769, .int .i64 32] 3)
    have b4 := b3.alloc b3.size (.cells #[.int .i64 98, .int .i64 32, .int .i64 8205] 3)
    have b5 := b4.alloc b4.size (.cells #[.int .i64 98, .int .i64 8205, .int .i64 183] 3)
    have b6 := b5.alloc b5.size (.cells #[.int .i64 98, .int .i64 183] 3)
    have b7 := b6.alloc b6.size (.cells #[.slice (some ⟨W.heap.size, 0, none⟩) 3 3, .slice (some ⟨W.heap.size + 1, 0, none⟩) 2 2, .slice (some ⟨W.heap.size + 1 + 1, 0, none⟩) 2 2, .slice (some ⟨W.heap.size + 1 + 1 + 1, 0, none⟩) 3 3, .slice (some ⟨W.heap.size + 1 + 1 + 1 + 1, 0, none⟩) 3 3, .slice (some ⟨W.heap.size + 1 + 1 + 1 + 1 + 1, 0, none⟩) 2 2] 22)
    have b8 := b7.alloc b7.size (.cells #[.int .i64 13, .int .i64 14, .int .i64 15, .int .i64 16, .int .i64 17, .int .i64 18] 30)
    have z5 : (((((W.alloc (.cells #[.int .i64 97, .int .i64 769, .int .i64 45] 3)).alloc (.cells #[.int .i64 769, .int .i64 45] 3)).alloc (.cells #[.int .i64 769, .int .i64 32] 3)).alloc (.cells #[.int .i64 98, .int .i64 32, .int .i64 8205] 3)).alloc (.cells #[.int .i64 98, .int .i64 8205, .int .i64 183] 3)).heap.size = W.heap.size + 1 + 1 + 1 + 1 + 1 := by simp
    have c0 := lit_ints (((((W.alloc (.cells #[.int .i64 97, .int .i64 769, .int .i64 45] 3)).alloc (.cells #[.int .i64 769, .int .i64 45] 3)).alloc (.cells #[.int .i64 769, .int .i64 32] 3)).alloc (.cells #[.int .i64 98, .int .i64 32, .int .i64 8205] 3)).alloc (.cells #[.int .i64 98, .int .i64 8205, .int .i64 183] 3)) #[.int .i64 98, .int .i64 183] [98, 183] 3 rfl
    rw [z5] at c0
    have d0 : Below ((((((W.alloc (.cells #[.int .i64 97, .int .i64 769, .int .i64 45] 3)).alloc (.cells #[.int .i64 769, .int .i64 45] 3)).alloc (.cells #[.int .i64 769, .int .i64 32] 3)).alloc (.cells #[.int .i64 98, .int .i64 32, .int .i64 8205] 3)).alloc (.cells #[.int .i64 98, .int .i64 8205, .int .i64 183] 3)).alloc (.cells #[.int .i64 98, .int .i64 183] 3)).heap.size ((((((W.alloc (.cells #[.int .i64 97, .int .i64 769, .int .i64 45] 3)).alloc (.cells #[.int .i64 769, .int .i64 45] 3)).alloc (.cells #[.int .i64 769, .int .i64 32] 3)).alloc (.cells #[.int .i64 98, .int .i64 32, .int .i64 8205] 3)).alloc (.cells #[.int .i64 98, .int .i64 8205, .int .i64 183] 3)).alloc (.cells #[.int .i64 98, .int .i64 183] 3)) ((((((W.alloc (.cells #[.int .i64 97, .int .i64 769, .int .i64 45] 3)).alloc (.cells #[.int .i64 769, .int .i64 45] 3)).alloc (.cells #[.int .i64 769, .int .i64 32] 3)).alloc (.cells #[.int .i64 98, .int .i64 32, .int .i64 8205] 3)).alloc (.cells #[.int .i64 98, .int .i64 8205, .int .i64 183] 3)).alloc (.cells #[.int .i64 98, .int .i64 183] 3)) := Below.refl _ _
    have d1 := d0.alloc d0.size (.cells #[.slice (some ⟨W.heap.size, 0, none⟩) 3 3, .slice (some ⟨W.heap.size + 1, 0, none⟩) 2 2, .slice (some ⟨W.heap.size + 1 + 1, 0, none⟩) 2 2, .slice (some ⟨W.heap.size + 1 + 1 + 1, 0, none⟩) 3 3, .slice (some ⟨W.heap.size + 1 + 1 + 1 + 1, 0, none⟩) 3 3, .slice (some ⟨W.heap.size + 1 + 1 + 1 + 1 + 1, 0, none⟩) 2 2] 22)
    have d2 := d1.alloc d1.size (.cells #[.int .i64 13, .int .i64 14, .int .i64 15, .int .i64 16, .int .i64 17, .int .i64 18] 30)
    have HI := Lib.hid (RowIn.below c0 d2)
    replace HE := Lib.hid (HE.out.step b8)
    clear b0 b1 b2 b3 b4 b5 b6 b7 b8 c0 d0 d1 d2 z5
    go_wp2_with fail
    refine (awake17_any _ (HR.out.below HE.out.bel)).mono ?_
    rintro e w5 ⟨rfl, hb⟩
    replace HI := Lib.hid (HI.out.below hb)
    replace HE := Lib.hid (HE.out.step hb)
    clear hb
    obtain ⟨⟨k0, k1, k2, k3, k4, k5⟩, ⟨k6, k7, k8, k9, k10, k11⟩⟩ := HE.out.box.load
    go_wp2_with fail
    refine (vchk_at x voT _ 2 [98, 183] 18 _ HE.out.tab (HR.out.below HE.out.bel) HI.out (by simp) (Lib.hid vo6)).mono ?_
    rintro e w6 ⟨rfl, hb⟩
    have HBZ := Lib.hid (HE.out.step hb).bel
    clear hb k0 k1 k2 k3 k4 k5 k6 k7 k8 k9 k10 k11
    go_wp2
    go_ret
    exact ⟨rfl, HBZ.out⟩

end Go.Proofs.YtopaojjodkoidaaGreatDoor
