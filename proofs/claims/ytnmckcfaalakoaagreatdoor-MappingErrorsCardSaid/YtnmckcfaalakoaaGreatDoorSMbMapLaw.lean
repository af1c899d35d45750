/-
  The laws of mapping: the empty tables, awake.
-/
import Derived.Test.YtnmckcfaalakoaaGreatDoorSMbPkZZG
import Derived.Test.YtnmckcfaalakoaaGreatDoorSMbKeepWordT

set_option linter.unusedSimpArgs false
set_option linter.unusedVariables false
namespace Go.Proofs.YtnmckcfaalakoaaGreatDoor
open Go.RowKit
set_option linter.unusedVariables false

/-- Tables without any rows. -/
def nilX : TV := ⟨.slice none 0 0, .slice none 0 0, .slice none 0 0, .slice none 0 0, .slice none 0 0, .slice none 0 0, .slice none 0 0, .slice none 0 0, .slice none 0 0, .slice none 0 0, .slice none 0 0, .slice none 0 0⟩
def nilT : Tb := ⟨[], [], [], [], [], [], [], [], [], [], [], []⟩
theorem nil_sp (w : World) : SpV w (.slice none 0 0) [] := ⟨none, 0, rfl, fun k hk => absurd hk (Nat.not_lt_zero _), by simp⟩
theorem nil_mp (w : World) : MpV w (.slice none 0 0) [] := ⟨none, 0, rfl, fun k hk => absurd hk (Nat.not_lt_zero _), by simp⟩
theorem nil_in (w : World) : InV w (.slice none 0 0) [] := ⟨none, 0, rfl, fun k hk => absurd hk (Nat.not_lt_zero _), by simp⟩
theorem nil_tab (w : World) : TabV w nilX nilT := ⟨nil_sp w, nil_sp w, nil_sp w, nil_sp w, nil_sp w, nil_sp w, nil_sp w, nil_mp w, nil_mp w, nil_mp w, nil_in w, nil_mp w⟩

theorem slice_inV13 {w : World} {p : Option Addr} {n c : Nat} {fl : List Int} (hl : fl.length = n) (hn : n ≤ 17592186043904) (hi : IntsIn w p fl) : InV w (.slice p n c) fl := ⟨p, c, by rw [hl], hi, by omega⟩

set_option maxRecDepth 100000 in
set_option maxHeartbeats 4000000 in
theorem awake13_any (w : World) (hr : Rsv w) : Calls Tryz.prog 6 #[] w (Gives (.bool true) w) := by
  have hm1 : Hid (mapR nilT [65, 45, 98] = ([97, 45, 98], 0, 0)) := by unfold Hid; decide +kernel
  have hm2 : Hid (mapR nilT [97, 32, 98] = ([], 1, 16)) := by unfold Hid; decide +kernel
  have HI0 := Lib.hid (lit_ints w #[.int .i64 65, .int .i64 45, .int .i64 98] [65, 45, 98] 3 rfl)
  have HB0 := Lib.hid ((Below.refl w.heap.size w).alloc (Nat.le_refl _) (.cells #[.int .i64 65, .int .i64 45, .int .i64 98] 3))
  have HR := Lib.hid hr
  clear hr
  go_enter Tryz.func6, Tryz.ntmps6
  go_wp2_with fail
  refine (map_at nilX nilT _ 3 [65, 45, 98] _ _ _ _ (nil_tab _) (HR.out.below HB0.out) HI0.out (by decide) hm1).mono ?_
  rintro e w1 ⟨v1, rfl, ho1, hb1⟩
  replace HB0 := Lib.hid (HB0.out.trans (hb1.mono HB0.out.size))
  obtain ⟨p1, c1, rfl, hi1⟩ := ho1.inn
  have HI1 := Lib.hid hi1
  clear ho1 hi1 hb1 HI0
  have HI2 := Lib.hid (lit_ints w1 #[.int .i64 97, .int .i64 32, .int .i64 98] [97, 32, 98] 3 rfl)
  have hba := (Below.refl w1.heap.size w1).alloc (Nat.le_refl _) (.cells #[.int .i64 97, .int .i64 32, .int .i64 98] 3)
  replace HB0 := Lib.hid (HB0.out.trans (hba.mono HB0.out.size))
  replace HI1 := Lib.hid (HI1.out.below hba)
  clear hba
  go_wp2_with fail
  refine (map_at nilX nilT _ 3 [97, 32, 98] _ _ _ _ (nil_tab _) (HR.out.below HB0.out) HI2.out (by decide) hm2).mono ?_
  rintro e w2 ⟨v2, rfl, ho2, hb2⟩
  replace HB0 := Lib.hid (HB0.out.trans (hb2.mono HB0.out.size))
  replace HI1 := Lib.hid (HI1.out.below hb2)
  obtain ⟨p2, c2, rfl, hi2⟩ := ho2.inn
  clear ho2 hi2 hb2 HI2
  have HI3 := Lib.hid (lit_ints w2 #[.int .i64 97, .int .i64 45, .int .i64 98] [97, 45, 98] 3 rfl)
  have hba := (Below.refl w2.heap.size w2).alloc (Nat.le_refl _) (.cells #[.int .i64 97, .int .i64 45, .int .i64 98] 3)
  replace HB0 := Lib.hid (HB0.out.trans (hba.mono HB0.out.size))
  replace HI1 := Lib.hid (HI1.out.below hba)
  clear hba
  go_wp2_with fail
  refine (same_at (.slice p1 3 c1) (.slice (some ⟨w2.heap.size, 0, none⟩) 3 3) [97, 45, 98] [97, 45, 98] true _ (slice_inV13 rfl (by decide) HI1.out) (slice_inV13 rfl (by decide) HI3.out) (by simp [Hid])).mono ?_
  rintro e w3 ⟨rfl, hb3⟩
  replace HB0 := Lib.hid (HB0.out.trans (hb3.mono HB0.out.size))
  clear hb3
  go_wp2
  go_ret
  exact ⟨rfl, HB0.out⟩

end Go.Proofs.YtnmckcfaalakoaaGreatDoor
