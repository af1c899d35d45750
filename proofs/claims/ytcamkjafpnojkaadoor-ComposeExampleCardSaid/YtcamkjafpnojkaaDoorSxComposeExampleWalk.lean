/-
  The walk of ComposeExample: the example's tables, with 233 excluded.
-/
import Derived.Test.YtcamkjafpnojkaaDoorSxPkZT
set_option linter.unusedSimpArgs false
set_option linter.unusedVariables false
namespace Go.Proofs.YtcamkjafpnojkaaDoor
open Go.RowKit
set_option linter.unusedVariables false

def ex8T : Tb := ⟨[], [(769, 769, 230)], [], [], [], [], [], [], [], [(233, [101, 769])], [233], []⟩
def ex8X (g h e : Nat) : TV := ⟨.slice none 0 0, .slice (some ⟨g, 0, none⟩) 1 1, .slice none 0 0, .slice none 0 0, .slice none 0 0, .slice none 0 0, .slice none 0 0, .slice none 0 0, .slice none 0 0, .slice (some ⟨h, 0, none⟩) 1 1, .slice (some ⟨e, 0, none⟩) 1 1, .slice none 0 0⟩
theorem ex8t_E : nfdE ex8T [233] = 0 := by decide +kernel
theorem ex8t_C : nfcL ex8T [233] = [101, 769] := by decide +kernel
theorem ex8t_Q : quickT ex8T [233] = 0 := by decide +kernel

/-- The tables behind the store. -/
abbrev exW (w1 : World) (g1 h1 : Nat) : World :=
  (w1.alloc (.cells (tabCells (ex8X g1 h1 (w1.heap.size + 1))) 26)).alloc (.cells #[.int .i64 233] 3)
theorem exW_bel (w1 : World) (g1 h1 : Nat) : Below w1.heap.size w1 (exW w1 g1 h1) :=
  ((Below.refl _ _).alloc (Nat.le_refl _) _).alloc (by simp) _
theorem exW_box (w1 : World) (g1 h1 : Nat) : BoxT (exW w1 g1 h1) w1.heap.size (ex8X g1 h1 (w1.heap.size + 1)) :=
  (BoxT.new w1 (ex8X g1 h1 (w1.heap.size + 1)) 26).below ((Below.refl _ _).alloc (Nat.le_refl _) (.cells #[.int .i64 233] 3))
theorem exW_tab (w1 : World) (g1 h1 : Nat) (ht : TabV w1 (ex7X g1 h1) ex7T) : TabV (exW w1 g1 h1) (ex8X g1 h1 (w1.heap.size + 1)) ex8T := by
  have h := ht.below (exW_bel w1 g1 h1)
  have hi := lit_ints (w1.alloc (.cells (tabCells (ex8X g1 h1 (w1.heap.size + 1))) 26)) #[.int .i64 233] [233] 3 rfl
  rw [World.size_alloc] at hi
  exact ⟨h.cat, h.cls, h.joi, h.bid, h.scr, h.sta, h.ign, h.ext, h.map, h.dec, ⟨_, 1, rfl, hi, by decide⟩, h.pro⟩

set_option maxRecDepth 100000 in
set_option maxHeartbeats 8000000 in
theorem composeExample_walk (w : World) (hr : Rsv w) : Calls Tryd.prog 3 #[] w (Gives (.bool true) w) := by
  have HR := Lib.hid hr
  clear hr
  go_enter Tryd.func3, Tryd.ntmps3
  go_wp2_with fail
  refine (example8_any _).mono ?_
  rintro e w1 ⟨g1, h1, rfl, ht1, hb1⟩
  have HT := Lib.hid (exW_tab w1 g1 h1 ht1)
  have HX := Lib.hid (exW_box w1 g1 h1)
  have HB := Lib.hid (hb1.trans ((exW_bel w1 g1 h1).mono hb1.size))
  clear ht1 hb1
  simp only [exW, tabCells, ex8X] at HT HX HB
  simp only [ex7X, TV.agg]
  go_upto_region 3 with (fail)
  generalize ((w1.alloc (.cells #[.slice none 0 0, .slice (some ⟨g1, 0, none⟩) 1 1, .slice none 0 0, .slice none 0 0, .slice none 0 0, .slice none 0 0, .slice none 0 0, .slice none 0 0, .slice none 0 0, .slice (some ⟨h1, 0, none⟩) 1 1, .slice (some ⟨w1.heap.size + 1, 0, none⟩) 1 1, .slice none 0 0] 26)).alloc (.cells #[.int .i64 233] 3)) = W at HT HX HB ⊢
  generalize w1.heap.size = g at HX HT ⊢
  generalize (⟨.slice none 0 0, .slice (some ⟨g1, 0, none⟩) 1 1, .slice none 0 0, .slice none 0 0, .slice none 0 0, .slice none 0 0, .slice none 0 0, .slice none 0 0, .slice none 0 0, .slice (some ⟨h1, 0, none⟩) 1 1, .slice (some ⟨g + 1, 0, none⟩) 1 1, .slice none 0 0⟩ : TV) = x at HT HX
  have HE : Hid (LEnv w g x ex8T W) := ⟨HT.out, HX.out, HB.out⟩
  clear HT HX HB
  have E1 := Lib.hid ex8t_E
  have C1 := Lib.hid ex8t_C
  have Q1 := Lib.hid ex8t_Q
  have HI := Lib.hid (lit_ints W #[.int .i64 233] [233] 3 rfl)
  have HA := Lib.hid (HE.out.step ((Below.refl W.heap.size W).alloc (Nat.le_refl _) (.cells #[.int .i64 233] 3)))
  obtain ⟨⟨k0, k1, k2, k3, k4, k5⟩, ⟨k6, k7, k8, k9, k10, k11⟩⟩ := HE.out.box.load
  go_wp2_with fail
  refine (nfc_at x ex8T _ 1 [233] 0 [101, 769] _ HA.out.tab (HR.out.below HA.out.bel) HI.out (by simp) E1 C1).mono ?_
  rintro e w3 ⟨v3, rfl, ho3, hb3⟩
  replace HE := Lib.hid (HA.out.step hb3)
  obtain ⟨p3, c3, rfl, hi3⟩ := ho3.inn
  have HI3 := Lib.hid hi3
  clear hb3 ho3 hi3 HA HI k0 k1 k2 k3 k4 k5 k6 k7 k8 k9 k10 k11
  go_wp2_with fail
  refine (awake8_any _ (HR.out.below HE.out.bel)).mono ?_
  rintro e w4 ⟨rfl, hb4⟩
  replace HE := Lib.hid (HE.out.step hb4)
  replace HI3 := Lib.hid (HI3.out.below hb4)
  clear hb4
  have HA := Lib.hid (HE.out.step ((Below.refl w4.heap.size w4).alloc (Nat.le_refl _) (.cells #[.int .i64 101, .int .i64 769] 3)))
  have HI5 := Lib.hid (HI3.out.below ((Below.refl w4.heap.size w4).alloc (Nat.le_refl _) (.cells #[.int .i64 101, .int .i64 769] 3)))
  have HI4 := Lib.hid (lit_ints w4 #[.int .i64 101, .int .i64 769] [101, 769] 3 rfl)
  go_wp2_with fail
  refine (same_at _ _ [101, 769] [101, 769] true _ ⟨p3, c3, rfl, HI5.out, by simp⟩ ⟨_, _, rfl, HI4.out, by simp⟩ (by simp [Hid])).mono ?_
  rintro e w5 ⟨rfl, hb5⟩
  replace HE := Lib.hid (HA.out.step hb5)
  clear hb5 HA HI5 HI4 HI3
  have HA := Lib.hid (HE.out.step ((Below.refl w5.heap.size w5).alloc (Nat.le_refl _) (.cells #[.int .i64 233] 3)))
  have HI6 := Lib.hid (lit_ints w5 #[.int .i64 233] [233] 3 rfl)
  obtain ⟨⟨k0, k1, k2, k3, k4, k5⟩, ⟨k6, k7, k8, k9, k10, k11⟩⟩ := HE.out.box.load
  go_wp2_with fail
  refine (quick_at x ex8T _ 1 [233] 0 _ HA.out.tab (HR.out.below HA.out.bel) HI6.out (by simp) Q1).mono ?_
  rintro e w6 ⟨rfl, hb6⟩
  have HB := Lib.hid (HA.out.step hb6).bel
  clear hb6 k0 k1 k2 k3 k4 k5 k6 k7 k8 k9 k10 k11
  go_wp2
  go_ret
  exact ⟨rfl, HB.out⟩

end Go.Proofs.YtcamkjafpnojkaaDoor
