/-
  The laws of table: awake.
-/
import Derived.Test.YtmkaclfjekjabaaDoorTabW
import Derived.Test.YtmkaclfjekjabaaDoorSame
import Derived.Test.YtmkaclfjekjabaaDoorTabRC
namespace Go.Proofs.YtmkaclfjekjabaaDoor
open Go.RowKit
set_option linter.unusedVariables false

theorem lowc_any (c : Int) (w : World) (hc : c = 65) : Calls Tryd.prog 46 #[.int .i64 c] w fun e w' => e = .returned (.int .i64 97) ∧ w = w' := by
  subst hc
  go_enter Tryd.func46, Tryd.ntmps46
  go_wp2
  go_ret
  exact ⟨rfl, rfl⟩

set_option maxHeartbeats 2000000 in
theorem mapsA_any (x : TV) (w : World) :
    Calls Tryd.prog 11 #[x.agg, .int .i64 65] w fun e w' => ∃ g, e = .returned (.slice (some ⟨g, 0, none⟩) 1 1) ∧ IntsIn w' (some ⟨g, 0, none⟩) [97] ∧ Below w.heap.size w w' := by
  have hu := (upp_any 65 (w.alloc (.cells (tabCells x) 26)))
  rw [show uppB 65 = true from by decide] at hu
  have HU := Lib.hid hu
  clear hu
  simp only [TV.agg]
  go_enter Tryd.func11, Tryd.ntmps11
  go_wp2_with fail
  refine HU.out.mono ?_
  rintro e w1 ⟨rfl, rfl⟩
  go_wp2_with fail
  refine (lowc_any 65 _ rfl).mono ?_
  rintro e w2 ⟨rfl, rfl⟩
  go_wp2
  go_ret
  refine ⟨_, rfl, ?_, ((Below.refl _ _).alloc (Nat.le_refl _) _).alloc (by simp) _⟩
  have := lit_ints (w.alloc (.cells (tabCells x) 26)) #[.int .i64 97] [97] 3 rfl
  simpa [tabCells] using this

/-- No tables at all. -/
def noT : Tb := ⟨[], [], [], [], [], [], [], [], [], [], [], []⟩
def noX : TV := ⟨.slice none 0 0, .slice none 0 0, .slice none 0 0, .slice none 0 0, .slice none 0 0, .slice none 0 0, .slice none 0 0, .slice none 0 0, .slice none 0 0, .slice none 0 0, .slice none 0 0, .slice none 0 0⟩
theorem noS (w : World) : SpV w (.slice none 0 0) [] := ⟨none, 0, rfl, fun k hk => absurd hk (Nat.not_lt_zero _), by simp⟩
theorem noM (w : World) : MpV w (.slice none 0 0) [] := ⟨none, 0, rfl, fun k hk => absurd hk (Nat.not_lt_zero _), by simp⟩
theorem noI (w : World) : InV w (.slice none 0 0) [] := ⟨none, 0, rfl, fun k hk => absurd hk (Nat.not_lt_zero _), by simp⟩
theorem noV (w : World) : TabV w noX noT := ⟨noS w, noS w, noS w, noS w, noS w, noS w, noS w, noM w, noM w, noM w, noI w, noM w⟩
theorem no_check : checkT noT = 0 := by decide
theorem no_sta : staT noT 97 = 1 := by decide
theorem no_scr : scrT noT 44032 = 9 := by decide
theorem no_cat : catT noT 233 = 0 := by decide


set_option maxRecDepth 100000 in
set_option maxHeartbeats 4000000 in
theorem awake_any (w : World) (hr : Rsv w) : Calls Tryd.prog 5 #[] w (Gives (.bool true) w) := by
  have HB0 := Lib.hid ((Below.refl w.heap.size w).alloc (Nat.le_refl _) (.cells (tabCells noX) 26))
  have HBX := Lib.hid (BoxT.new w noX 26)
  have HR := Lib.hid hr
  have HT : Hid (∀ W, TabV W noX noT) := noV
  clear hr
  go_enter Tryd.func5, Tryd.ntmps5
  go_upto_region 2 with (fail)
  simp only [tabCells, noX] at HB0 HBX
  obtain ⟨W, hW⟩ : ∃ W : World, W = w.alloc (.cells #[.slice none 0 0, .slice none 0 0, .slice none 0 0, .slice none 0 0, .slice none 0 0, .slice none 0 0, .slice none 0 0, .slice none 0 0, .slice none 0 0, .slice none 0 0, .slice none 0 0, .slice none 0 0] 26) := ⟨_, rfl⟩
  rw [← hW] at HB0 HBX ⊢
  clear hW
  obtain ⟨⟨k0, k1, k2, k3, k4, k5⟩, ⟨k6, k7, k8, k9, k10, k11⟩⟩ := HBX.out.load
  simp only at k0 k1 k2 k3 k4 k5 k6 k7 k8 k9 k10 k11
  go_wp2_with fail
  refine (check_tab_at noX noT 0 _ (HT.out _) (HR.out.below HB0.out) no_check).mono ?_
  rintro e w1 ⟨rfl, hb1⟩
  have HB1 := Lib.hid (HB0.out.trans (hb1.mono HB0.out.size))
  have HX1 := Lib.hid (HBX.out.below hb1)
  clear hb1 k0 k1 k2 k3 k4 k5 k6 k7 k8 k9 k10 k11
  obtain ⟨⟨k0, k1, k2, k3, k4, k5⟩, ⟨k6, k7, k8, k9, k10, k11⟩⟩ := HX1.out.load
  simp only at k0 k1 k2 k3 k4 k5 k6 k7 k8 k9 k10 k11
  go_wp2_with fail
  refine (status_at noX noT 97 1 _ (HT.out _) rfl no_sta).mono ?_
  rintro e w2 ⟨rfl, hb2⟩
  have HB2 := Lib.hid (HB1.out.trans (hb2.mono HB1.out.size))
  have HX2 := Lib.hid (HX1.out.below hb2)
  clear hb2 k0 k1 k2 k3 k4 k5 k6 k7 k8 k9 k10 k11
  obtain ⟨⟨k0, k1, k2, k3, k4, k5⟩, ⟨k6, k7, k8, k9, k10, k11⟩⟩ := HX2.out.load
  simp only at k0 k1 k2 k3 k4 k5 k6 k7 k8 k9 k10 k11
  go_wp2_with fail
  refine (mapsA_any noX _).mono ?_
  rintro e w3 ⟨g, rfl, hi, hb3⟩
  have HB3 := Lib.hid (HB2.out.trans (hb3.mono HB2.out.size))
  have HX3 := Lib.hid (HX2.out.below hb3)
  have hi2 := hi.below ((Below.refl _ _).alloc (Nat.le_refl _) (.cells #[.int .i64 97] 3))
  have hsm := same_any (some ⟨g, 0, none⟩) (some ⟨w3.heap.size, 0, none⟩) 1 1 [97] [97] (w3.alloc (.cells #[.int .i64 97] 3)) hi2 (lit_ints w3 #[.int .i64 97] [97] 3 rfl) (by simp [maxLen]) (by simp [maxLen])
  have HSM := Lib.hid hsm
  have HB3a := Lib.hid (HB3.out.alloc HB3.out.size (.cells #[.int .i64 97] 3))
  have HX3a := Lib.hid (HX3.out.below ((Below.refl _ _).alloc (Nat.le_refl _) (.cells #[.int .i64 97] 3)))
  clear hi hb3 hi2 hsm k0 k1 k2 k3 k4 k5 k6 k7 k8 k9 k10 k11
  go_wp2_with fail
  refine HSM.out.mono ?_
  rintro e w4 ⟨rfl, hb4⟩
  have HB4 := Lib.hid (HB3a.out.trans (hb4.mono HB3a.out.size))
  have HX4 := Lib.hid (HX3a.out.below hb4)
  clear hb4
  obtain ⟨⟨k0, k1, k2, k3, k4, k5⟩, ⟨k6, k7, k8, k9, k10, k11⟩⟩ := HX4.out.load
  simp only at k0 k1 k2 k3 k4 k5 k6 k7 k8 k9 k10 k11
  go_wp2_with fail
  refine (script_at noX noT 44032 9 _ (HT.out _) rfl no_scr).mono ?_
  rintro e w5 ⟨rfl, hb5⟩
  have HB5 := Lib.hid (HB4.out.trans (hb5.mono HB4.out.size))
  have HX5 := Lib.hid (HX4.out.below hb5)
  clear hb5 k0 k1 k2 k3 k4 k5 k6 k7 k8 k9 k10 k11
  obtain ⟨⟨k0, k1, k2, k3, k4, k5⟩, ⟨k6, k7, k8, k9, k10, k11⟩⟩ := HX5.out.load
  simp only at k0 k1 k2 k3 k4 k5 k6 k7 k8 k9 k10 k11
  go_wp2_with fail
  refine (category_at noX noT 233 0 _ (HT.out _) rfl no_cat).mono ?_
  rintro e w6 ⟨rfl, hb6⟩
  have HB6 := Lib.hid (HB5.out.trans (hb6.mono HB5.out.size))
  clear hb6 k0 k1 k2 k3 k4 k5 k6 k7 k8 k9 k10 k11
  go_wp2
  go_ret
  exact ⟨rfl, HB6.out⟩

end Go.Proofs.YtmkaclfjekjabaaDoor
