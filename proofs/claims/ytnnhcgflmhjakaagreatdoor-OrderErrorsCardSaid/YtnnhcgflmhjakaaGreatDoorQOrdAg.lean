/-
  The laws of order: agrees (genAG.py).
-/
import Derived.Test.YtnnhcgflmhjakaaGreatDoorPkT
import Derived.Test.YtnnhcgflmhjakaaGreatDoorPkS
set_option linter.unusedSimpArgs false
set_option linter.unusedVariables false
namespace Go.Proofs.YtnnhcgflmhjakaaGreatDoor
open Go.RowKit
set_option linter.unusedVariables false

theorem ordL_len (T : Tb) (l : List Int) : (ordL T l).length ≤ 4096 := by
  unfold ordL
  split
  · rename_i h
    rw [ordS_length]; exact (accE_ok h).2.1
  · exact Nat.zero_le _
theorem runsL_len (T : Tb) (l : List Int) : (runsL T l).length ≤ 4097 := by
  unfold runsL
  split
  · rename_i h
    unfold runsS
    have := edges_len (opens T l) ((opens T l).length + 1)
    have h2 := (accE_ok h).2.1
    rw [opens_length] at this ⊢
    omega
  · exact Nat.zero_le _

set_option maxRecDepth 100000 in
set_option maxHeartbeats 8000000 in
theorem agrees_at (x : TV) (T : Tb) (p : Option Addr) (cap : Nat) (zs : List Int) (w : World) (hx : TabV w x T) (hcap : CapOf x) (hr : Rsv w) (hin : IntsIn w p zs) (hl : zs.length ≤ 17592186043904) :
    Calls Tryz.prog 18 #[x.agg, .slice p zs.length cap] w (Gives (.bool true) w) := by
  have HE := Lib.hid (Env.new hx)
  have HI := Lib.hid hin
  have HR := Lib.hid hr
  have HC := Lib.hid hcap
  obtain ⟨E, hE⟩ : ∃ E, Hid (accE T zs = E) := ⟨_, rfl⟩
  obtain ⟨L, hL⟩ : ∃ L, Hid (ordL T zs = L) := ⟨_, rfl⟩
  obtain ⟨R, hR⟩ : ∃ L, Hid (runsL T zs = L) := ⟨_, rfl⟩
  obtain ⟨B, hB⟩ : ∃ B, Hid (srtB T zs = B) := ⟨_, rfl⟩
  have HLL : Hid (L.length ≤ 17592186043904) := by unfold Hid; rw [← hL.out]; exact Nat.le_trans (ordL_len T zs) (by omega)
  have HRL : Hid (R.length ≤ 17592186043904) := by unfold Hid; rw [← hR.out]; exact Nat.le_trans (runsL_len T zs) (by omega)
  have ho1 := fun W (h1 : TabV W x T) h2 h3 => order_at x T p cap zs E L W h1 h2 h3 (by omega) hE hL
  have ho2 := fun W (h1 : TabV W x T) h2 => rorder_at x T p cap zs E L W h1 hcap h2 (by omega) hE hL
  have hu1 := fun W (h1 : TabV W x T) h2 h3 => runs_at x T p cap zs E R W h1 h2 h3 (by omega) hE hR
  have hu2 := fun W (h1 : TabV W x T) h2 => rruns_at x T p cap zs E R W h1 hcap h2 (by omega) hE hR
  have hs1 := fun W (h1 : TabV W x T) h2 h3 => sorted_at x T p cap zs B W h1 h2 h3 (by omega) hB
  have hs2 := fun W (h1 : TabV W x T) h2 => rsorted_at x T p cap zs B W h1 hcap h2 (by omega) hB
  obtain ⟨n, hn⟩ : ∃ n, zs.length = n := ⟨_, rfl⟩
  rw [hn] at hl ho1 ho2 hu1 hu2 hs1 hs2 ⊢
  have HO1 := Lib.hid ho1
  have HO2 := Lib.hid ho2
  have HU1 := Lib.hid hu1
  have HU2 := Lib.hid hu2
  have HS1 := Lib.hid hs1
  have HS2 := Lib.hid hs2
  clear hx hin hn hcap hr ho1 ho2 hu1 hu2 hs1 hs2
  simp only [TV.agg]
  go_enter Tryz.func18, Tryz.ntmps18
  obtain ⟨⟨k0, k1, k2, k3, k4, k5⟩, ⟨k6, k7, k8, k9, k10, k11⟩⟩ := HE.out.box.load
  go_wp2_with fail
  refine (HO1.out _ HE.out.tab (HR.out.below HE.out.bel) (HI.out.below HE.out.bel)).mono ?_
  rintro e w1 ⟨v1, rfl, hi, hb⟩
  replace HE := Lib.hid (HE.out.step hb)
  have HV1 := Lib.hid hi
  clear hi hb k0 k1 k2 k3 k4 k5 k6 k7 k8 k9 k10 k11
  obtain ⟨⟨k0, k1, k2, k3, k4, k5⟩, ⟨k6, k7, k8, k9, k10, k11⟩⟩ := HE.out.box.load
  go_wp2_with fail
  refine (HO2.out _ HE.out.tab (HI.out.below HE.out.bel)).mono ?_
  rintro e w2 ⟨v2, rfl, hi, hb⟩
  replace HE := Lib.hid (HE.out.step hb)
  replace HV1 := Lib.hid (HV1.out.below hb)
  have HV2 := Lib.hid hi
  clear hi hb k0 k1 k2 k3 k4 k5 k6 k7 k8 k9 k10 k11
  obtain ⟨⟨k0, k1, k2, k3, k4, k5⟩, ⟨k6, k7, k8, k9, k10, k11⟩⟩ := HE.out.box.load
  go_wp2_with fail
  refine (HU1.out _ HE.out.tab (HR.out.below HE.out.bel) (HI.out.below HE.out.bel)).mono ?_
  rintro e w3 ⟨v3, rfl, hi, hb⟩
  replace HE := Lib.hid (HE.out.step hb)
  replace HV1 := Lib.hid (HV1.out.below hb)
  replace HV2 := Lib.hid (HV2.out.below hb)
  have HV3 := Lib.hid hi
  clear hi hb k0 k1 k2 k3 k4 k5 k6 k7 k8 k9 k10 k11
  obtain ⟨⟨k0, k1, k2, k3, k4, k5⟩, ⟨k6, k7, k8, k9, k10, k11⟩⟩ := HE.out.box.load
  go_wp2_with fail
  refine (HU2.out _ HE.out.tab (HI.out.below HE.out.bel)).mono ?_
  rintro e w4 ⟨v4, rfl, hi, hb⟩
  replace HE := Lib.hid (HE.out.step hb)
  replace HV1 := Lib.hid (HV1.out.below hb)
  replace HV2 := Lib.hid (HV2.out.below hb)
  replace HV3 := Lib.hid (HV3.out.below hb)
  have HV4 := Lib.hid hi
  clear hi hb k0 k1 k2 k3 k4 k5 k6 k7 k8 k9 k10 k11
  have d1 : (E == E) = true := by simp
  have d2 : (B == B) = true := by simp
  obtain ⟨⟨k0, k1, k2, k3, k4, k5⟩, ⟨k6, k7, k8, k9, k10, k11⟩⟩ := HE.out.box.load
  have K0 := fun p => layB_cell k0 p
  have K1 := fun p => layB_cell k1 p
  have K2 := fun p => layB_cell k2 p
  have K3 := fun p => layB_cell k3 p
  have K4 := fun p => layB_cell k4 p
  have K5 := fun p => layB_cell k5 p
  have K6 := fun p => layB_cell k6 p
  have K7 := fun p => layB_cell k7 p
  have K8 := fun p => layB_cell k8 p
  have K9 := fun p => layB_cell k9 p
  have K10 := fun p => layB_cell k10 p
  have K11 := fun p => layB_cell k11 p
  have cc1 := fun p => layB_call (p := p) fun W2 hW2 => same_at v1 v2 L L true W2 ((HV1.out.below hW2).inV HLL.out) ((HV2.out.below hW2).inV HLL.out) (by simp [Hid])
  have cc2 := fun p => layB_call (p := p) fun W2 hW2 => same_at v3 v4 R R true W2 ((HV3.out.below hW2).inV HRL.out) ((HV4.out.below hW2).inV HRL.out) (by simp [Hid])
  have cc3 := fun p => layB_call (p := p) fun W2 hW2 => HS1.out W2 (HE.out.tab.below hW2) ((HR.out.below HE.out.bel).below hW2) ((HI.out.below HE.out.bel).below hW2)
  have cc4 := fun p => layB_call (p := p) fun W2 hW2 => HS2.out W2 (HE.out.tab.below hW2) ((HI.out.below HE.out.bel).below hW2)
  simp only [TV.agg] at cc3 cc4
  have C1 := Lib.hid cc1
  have C2 := Lib.hid cc2
  have C3 := Lib.hid cc3
  have C4 := Lib.hid cc4
  clear cc1 cc2 cc3 cc4 k0 k1 k2 k3 k4 k5 k6 k7 k8 k9 k10 k11
  go_upto_region 5 with (fail)
  refine wp_region_layB (by kernel_rfl) (by kernel_rfl) ?_
  repeat (go_big_quiet_step (first
    | (go_at_call 37; with_reducible exact C1.out _)
    | (go_at_call 37; with_reducible exact C2.out _)
    | (go_at_call 50; with_reducible exact C3.out _)
    | (go_at_call 51; with_reducible exact C4.out _)))
  refine wpQuiet_nil ?_
  intro _ hw'
  obtain ⟨pq, hw''⟩ := hw'
  subst hw''
  have HEq := Lib.hid (HE.out.bel.trans ((layB_below w4 pq).mono HE.out.bel.size))
  generalize layB w4 pq = wq at HEq ⊢
  go_wp2
  go_ret
  exact ⟨by simp, HEq.out⟩

end Go.Proofs.YtnnhcgflmhjakaaGreatDoor
