/-
  The laws of mapping: agrees (genML.py).
-/
import Derived.Test.YtnmckcfaalakoaaGreatDoorSMbMapLaw
import Derived.Deep.RegionHeld3
set_option linter.unusedSimpArgs false
set_option linter.unusedVariables false
namespace Go.Proofs.YtnmckcfaalakoaaGreatDoor
open Go.RowKit
set_option linter.unusedVariables false

theorem devT_len (T : Tb) (l : List Int) : (devT T l).length ≤ l.length := by
  unfold devT
  split
  · simp
  · exact devK_len T 0 l

set_option maxRecDepth 100000 in
set_option maxHeartbeats 8000000 in
theorem agrees13_at (x : TV) (T : Tb) (p : Option Addr) (cap : Nat) (zs : List Int) (w : World) (hx : TabV w x T) (hcap : CapOf x) (hr : Rsv w) (hin : IntsIn w p zs) (hl : zs.length ≤ 17592186043904) :
    Calls Tryz.prog 7 #[x.agg, .slice p zs.length cap] w (Gives (.bool true) w) := by
  have HE := Lib.hid (Env.new hx)
  have HI := Lib.hid hin
  have HR := Lib.hid hr
  obtain ⟨L, K, E, hR⟩ : ∃ L K E, Hid (mapR T zs = (L, K, E)) := ⟨_, _, _, rfl⟩
  obtain ⟨B, hB⟩ : ∃ B, Hid (stbB T zs = B) := ⟨_, rfl⟩
  obtain ⟨D, hD⟩ : ∃ D, Hid (devT T zs = D) := ⟨_, rfl⟩
  have HLL : Hid (L.length ≤ 17592186043904) := by unfold Hid; have := mapR_len T zs; rw [hR.out] at this; exact Nat.le_trans this (by decide)
  have HDL : Hid (D.length ≤ 17592186043904) := by unfold Hid; rw [← hD.out]; exact Nat.le_trans (devT_len T zs) hl
  have hm1 := fun W (h1 : TabV W x T) h2 h3 => map_at x T p cap zs L K E W h1 h2 h3 hl hR
  have hm2 := fun W (h1 : TabV W x T) h2 => rmap_at x T p cap zs L K E W h1 hcap h2 hl hR
  have hs1 := fun W (h1 : TabV W x T) h2 h3 => stable_at x T p cap zs B W h1 h2 h3 hl hB
  have hs2 := fun W (h1 : TabV W x T) h2 => rstable_at x T p cap zs B W h1 hcap h2 hl hB
  have hd1 := fun W (h1 : TabV W x T) h2 h3 => devs_at x T p cap zs D W h1 h2 h3 hl hD
  have hd2 := fun W (h1 : TabV W x T) h2 => rdev_at x T p cap zs D W h1 hcap h2 hl hD
  obtain ⟨n, hn⟩ : ∃ n, zs.length = n := ⟨_, rfl⟩
  rw [hn] at hl hm1 hm2 hs1 hs2 hd1 hd2 ⊢
  have HM1 := Lib.hid hm1
  have HM2 := Lib.hid hm2
  have HS1 := Lib.hid hs1
  have HS2 := Lib.hid hs2
  have HD1 := Lib.hid hd1
  have HD2 := Lib.hid hd2
  clear hx hin hn hcap hr hm1 hm2 hs1 hs2 hd1 hd2
  simp only [TV.agg]
  go_enter Tryz.func7, Tryz.ntmps7
  obtain ⟨⟨k0, k1, k2, k3, k4, k5⟩, ⟨k6, k7, k8, k9, k10, k11⟩⟩ := HE.out.box.load
  go_wp2_with fail
  refine (HM1.out _ HE.out.tab (HR.out.below HE.out.bel) (HI.out.below HE.out.bel)).mono ?_
  rintro e w1 ⟨v1, rfl, hi, hb⟩
  replace HE := Lib.hid (HE.out.step hb)
  have HV1 := Lib.hid hi
  clear hi hb k0 k1 k2 k3 k4 k5 k6 k7 k8 k9 k10 k11
  obtain ⟨⟨k0, k1, k2, k3, k4, k5⟩, ⟨k6, k7, k8, k9, k10, k11⟩⟩ := HE.out.box.load
  go_wp2_with fail
  refine (HM2.out _ HE.out.tab (HI.out.below HE.out.bel)).mono ?_
  rintro e w2 ⟨v2, rfl, hi, hb⟩
  replace HE := Lib.hid (HE.out.step hb)
  replace HV1 := Lib.hid (HV1.out.below hb)
  have HV2 := Lib.hid hi
  clear hi hb k0 k1 k2 k3 k4 k5 k6 k7 k8 k9 k10 k11
  have d1 : ((K : Int) == (K : Int)) = true := by simp
  have d2 : (E == E) = true := by simp
  have d3 : (B == B) = true := by simp
  have HLT : Hid ((L == L) = true) := by simp [Hid]
  have HDT : Hid ((D == D) = true) := by simp [Hid]
  go_upto_region 3 with (fail)
  have e0 := HE.out.step (drew_one w2)
  have HE0 := Lib.hid e0
  replace HV1 := Lib.hid ((HV1.out.below (drew_one w2)).inV HLL.out)
  replace HV2 := Lib.hid ((HV2.out.below (drew_one w2)).inV HLL.out)
  clear e0
  obtain ⟨⟨k0, k1, k2, k3, k4, k5⟩, ⟨k6, k7, k8, k9, k10, k11⟩⟩ := HE.out.box.load
  go_region_held3 (boxF w.heap.size x)
    (first
      | exact HE0.out.box.flat
      | exact (HE0.out.step hb3).box.flat
      | exact ((HE0.out.step hb3).step hb4).box.flat
      | exact (((HE0.out.step hb3).step hb4).step hb5).box.flat
      | exact ((((HE0.out.step hb3).step hb4).step hb5).step hb6).box.flat
      | exact (((((HE0.out.step hb3).step hb4).step hb5).step hb6).step hb7).box.flat
      | exact ((((((HE0.out.step hb3).step hb4).step hb5).step hb6).step hb7).step hb8).box.flat)
    (first
      | (go_at_call 21; (with_reducible refine (same_at v1 v2 L L true _ HV1.out HV2.out HLT).mono ?_); rintro e w3 ⟨rfl, hb3⟩)
      | (go_at_call 23; (with_reducible refine (HS1.out _ (HE0.out.step hb3).tab (HR.out.below (HE0.out.step hb3).bel) (HI.out.below (HE0.out.step hb3).bel)).mono ?_); rintro e w4 ⟨rfl, hb4⟩)
      | (go_at_call 24; (with_reducible refine (HS2.out _ ((HE0.out.step hb3).step hb4).tab (HI.out.below ((HE0.out.step hb3).step hb4).bel)).mono ?_); rintro e w5 ⟨rfl, hb5⟩)
      | (go_at_call 25; (with_reducible refine (HD1.out _ (((HE0.out.step hb3).step hb4).step hb5).tab (HR.out.below (((HE0.out.step hb3).step hb4).step hb5).bel) (HI.out.below (((HE0.out.step hb3).step hb4).step hb5).bel)).mono ?_); rintro e w6 ⟨v6, rfl, ho6, hb6⟩)
      | (go_at_call 26; (with_reducible refine (HD2.out _ ((((HE0.out.step hb3).step hb4).step hb5).step hb6).tab (HI.out.below ((((HE0.out.step hb3).step hb4).step hb5).step hb6).bel)).mono ?_); rintro e w7 ⟨v7, rfl, ho7, hb7⟩)
      | (go_at_call 21; (with_reducible refine (same_at v6 v7 D D true _ ((ho6.below hb7).inV HDL.out) (ho7.inV HDL.out) HDT).mono ?_); rintro e w8 ⟨rfl, hb8⟩)
      | fail)
  all_goals
    have HBZ := Lib.hid (((((((HE0.out.step hb3).step hb4).step hb5).step hb6).step hb7).step hb8)).bel
    clear hb3 hb4 hb5 hb6 hb7 hb8
    go_wp2
    go_ret
    exact ⟨by simp, HBZ.out⟩

end Go.Proofs.YtnmckcfaalakoaaGreatDoor
