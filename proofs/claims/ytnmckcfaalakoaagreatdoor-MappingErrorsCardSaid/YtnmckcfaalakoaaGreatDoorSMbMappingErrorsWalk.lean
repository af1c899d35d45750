/-
  The walk of MappingErrors (genML.py).
-/
import Derived.Test.YtnmckcfaalakoaaGreatDoorSMbMapAg
import Derived.Test.YtnmckcfaalakoaaGreatDoorSMbTblQ
import Derived.Test.YtnmckcfaalakoaaGreatDoorSMbPkV
import Derived.Deep.RegionHeld3
set_option linter.unusedSimpArgs false
set_option linter.unusedVariables false
namespace Go.Proofs.YtnmckcfaalakoaaGreatDoor
open Go.RowKit
set_option linter.unusedVariables false

theorem made_few13 {T : Tb} (h : Made T) : Few 256 T := few_of_r1 (check_rules h.check).1

set_option maxRecDepth 100000 in
set_option maxHeartbeats 8000000 in
theorem mappingErrors_walk (p0 : Option Addr) (cap0 : Nat) (zs0 : List Int) (p1 : Option Addr) (cap1 : Nat) (zs1 : List Int) (n2 : Int) (n3 : Int) (n4 : Int) (y : TV) (U : Tb) (w : World) (hin0 : IntsIn w p0 zs0) (hl0 : zs0.length ≤ 17592186043904) (hin1 : IntsIn w p1 zs1) (hl1 : zs1.length ≤ 17592186043904) (hy : TabV w y U) (hyc : ∀ p n c, y.a9 = .slice p n c → n ≤ c) (hr : Rsv w) :
    Calls Tryz.prog 4 #[.slice p0 zs0.length cap0, .slice p1 zs1.length cap1, .int .i64 n2, .int .i64 n3, .int .i64 n4, y.agg] w (Gives (.bool true) w) := by
  have HI0 := Lib.hid hin0
  have HL0 := Lib.hid hl0
  have HI1 := Lib.hid hin1
  have HL1 := Lib.hid hl1
  have HR := Lib.hid hr
  clear hin0 hl0 hin1 hl1 hr
  have HYC : Hid (CapOf y) := hyc
  have HE := Lib.hid (Env.new hy)
  clear hy hyc
  simp only [TV.agg]
  go_enter Tryz.func4, Tryz.ntmps4
  obtain ⟨m, hm⟩ : ∃ m, zs1.length = m := ⟨_, rfl⟩
  obtain ⟨xw, hxw⟩ : ∃ m, Hid (wordF zs1 = m) := ⟨_, rfl⟩
  have hxl := (wordF_len zs1).2
  rw [hxw.out] at hxl
  have hwd := fun W h1 => kwordsN_at p1 m cap1 zs1 xw W h1 hm (by have := HL1.out; omega) hxw
  have hg1 := fun x T pa ca xs W (h0 : CapOf x) (h1 : TabV W x T) h2 (h5 : xs.length ≤ 10) h3 => agrees13_at x T pa ca xs W h1 h0 h2 h3 (by omega)
  have hg2 := fun W (h1 : TabV W y U) h2 h3 => agrees13_at y U p1 cap1 zs1 W h1 HYC.out h2 h3 HL1.out
  rw [hm] at hg2 ⊢
  have HWD := Lib.hid hwd
  have HG1 := Lib.hid hg1
  have HG2 := Lib.hid hg2
  have HXL := Lib.hid hxl
  clear hm hwd hg1 hg2 hxl
  obtain ⟨⟨k0, k1, k2, k3, k4, k5⟩, ⟨k6, k7, k8, k9, k10, k11⟩⟩ := HE.out.box.load
  go_wp2_with fail
  refine (awake13_any _ (HR.out.below HE.out.bel)).mono ?_
  rintro e w1 ⟨rfl, hb⟩
  replace HE := Lib.hid (HE.out.step hb)
  clear hb
  clear k0 k1 k2 k3 k4 k5 k6 k7 k8 k9 k10 k11
  obtain ⟨⟨k0, k1, k2, k3, k4, k5⟩, ⟨k6, k7, k8, k9, k10, k11⟩⟩ := HE.out.box.load
  go_wp2_with fail
  refine (tables_any p0 cap0 zs0 _ (HI0.out.below HE.out.bel) HL0.out).mono ?_
  rintro e w2 ⟨x1, T1, rfl, ht, hm1, hc1, hb⟩
  have HT := Lib.hid ht
  have HF := Lib.hid (made_few13 hm1)
  have HC1 : Hid (CapOf x1) := hc1
  clear ht hm1 hc1
  replace HE := Lib.hid (HE.out.step hb)
  clear hb
  clear k0 k1 k2 k3 k4 k5 k6 k7 k8 k9 k10 k11
  obtain ⟨⟨k0, k1, k2, k3, k4, k5⟩, ⟨k6, k7, k8, k9, k10, k11⟩⟩ := HE.out.box.load
  go_wp2_with fail
  refine (other_any x1 T1 256 n2 n3 n4 _ HT.out HF.out (by omega)).mono ?_
  rintro e w3 ⟨x2, T2, rfl, ht2, hf2, hc2, hb⟩
  have HT2 := Lib.hid ht2
  have HC2 : Hid (CapOf x2) := hc2 HC1.out
  clear ht2 hf2 hc2
  replace HE := Lib.hid (HE.out.step hb)
  clear hb
  clear k0 k1 k2 k3 k4 k5 k6 k7 k8 k9 k10 k11
  obtain ⟨⟨k0, k1, k2, k3, k4, k5⟩, ⟨k6, k7, k8, k9, k10, k11⟩⟩ := HE.out.box.load
  go_wp2_with fail
  refine (HWD.out _ (HI1.out.below HE.out.bel)).mono ?_
  rintro e w4 ⟨v6, rfl, hi, hb⟩
  obtain ⟨p6, c6, e6, hi6⟩ := hi.inn
  subst e6
  have HW6 := Lib.hid hi6
  replace HT2 := Lib.hid (HT2.out.below hb)
  clear hi hi6
  replace HE := Lib.hid (HE.out.step hb)
  clear hb
  clear k0 k1 k2 k3 k4 k5 k6 k7 k8 k9 k10 k11
  obtain ⟨⟨k0, k1, k2, k3, k4, k5⟩, ⟨k6, k7, k8, k9, k10, k11⟩⟩ := HE.out.box.load
  go_wp2_with fail
  refine (HG1.out x2 T2 p6 c6 xw _ HC2.out HT2.out (HR.out.below HE.out.bel) (by have := HXL.out; omega) HW6.out).mono ?_
  rintro e w5 ⟨rfl, hb⟩
  clear HW6 HT2
  replace HE := Lib.hid (HE.out.step hb)
  clear hb
  clear k0 k1 k2 k3 k4 k5 k6 k7 k8 k9 k10 k11
  obtain ⟨⟨k0, k1, k2, k3, k4, k5⟩, ⟨k6, k7, k8, k9, k10, k11⟩⟩ := HE.out.box.load
  go_wp2_with fail
  refine (HG2.out _ HE.out.tab (HR.out.below HE.out.bel) (HI1.out.below HE.out.bel)).mono ?_
  rintro e w6 ⟨rfl, hb⟩
  replace HE := Lib.hid (HE.out.step hb)
  clear hb
  have HBZ := Lib.hid HE.out.bel
  go_wp2
  go_ret
  exact ⟨rfl, HBZ.out⟩

end Go.Proofs.YtnmckcfaalakoaaGreatDoor
