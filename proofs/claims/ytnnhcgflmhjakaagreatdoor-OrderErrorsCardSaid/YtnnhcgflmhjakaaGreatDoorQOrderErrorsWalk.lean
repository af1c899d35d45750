/-
  The walk of OrderErrors (genAG.py).
-/
import Derived.Test.YtnnhcgflmhjakaaGreatDoorQOrdAg
import Derived.Test.YtnnhcgflmhjakaaGreatDoorQOther
set_option linter.unusedSimpArgs false
set_option linter.unusedVariables false
namespace Go.Proofs.YtnnhcgflmhjakaaGreatDoor
open Go.RowKit
set_option linter.unusedVariables false

theorem made_few6 {T : Tb} (h : Made T) : Few 256 T := by
  have h0 := h.check
  apply few_of_r1
  unfold checkT at h0
  cases h1 : r1 T with
  | true => rfl
  | false => rw [h1] at h0; simp at h0

set_option maxRecDepth 100000 in
set_option maxHeartbeats 8000000 in
theorem orderErrors_walk (p : Option Addr) (cap : Nat) (zs : List Int) (q : Option Addr) (cq : Nat) (ms : List Int) (how at' v : Int) (y : TV) (U : Tb) (w : World) (hin : IntsIn w p zs) (hl : zs.length ≤ 17592186043904) (him : IntsIn w q ms) (hml : ms.length ≤ 17592186043904) (hy : TabV w y U) (hyc : ∀ p n c, y.a9 = .slice p n c → n ≤ c) (hr : Rsv w) :
    Calls Tryz.prog 6 #[.slice p zs.length cap, .slice q ms.length cq, .int .i64 how, .int .i64 at', .int .i64 v, y.agg] w (Gives (.bool true) w) := by
  have HI := Lib.hid hin
  have HL := Lib.hid hl
  have HMI := Lib.hid him
  have HML := Lib.hid hml
  have HR := Lib.hid hr
  have HYC : Hid (CapOf y) := hyc
  have HE := Lib.hid (Env.new hy)
  clear hin hl him hml hr hy hyc
  simp only [TV.agg]
  go_enter Tryz.func6, Tryz.ntmps6
  go_wp2_with fail
  refine (awake6_any _ (HR.out.below HE.out.bel)).mono ?_
  rintro e w1 ⟨rfl, hb1⟩
  replace HE := Lib.hid (HE.out.step hb1)
  clear hb1
  go_wp2_with fail
  refine (tables_any p cap zs _ (HI.out.below HE.out.bel) HL.out).mono ?_
  rintro e w2 ⟨x1, T1, rfl, ht1, hm1, hc1, hb2⟩
  replace HE := Lib.hid (HE.out.step hb2)
  have HT1 := Lib.hid ht1
  have HF1 := Lib.hid (made_few6 hm1)
  have HC1 : Hid (CapOf x1) := hc1
  clear hb2 ht1 hm1 hc1
  go_wp2_with fail
  refine (other_any x1 T1 256 how at' v _ HT1.out HF1.out (by omega)).mono ?_
  rintro e w3 ⟨x2, T2, rfl, ht2, hf2, hc2, hb3⟩
  replace HE := Lib.hid (HE.out.step hb3)
  have HT2 := Lib.hid ht2
  have HC2 : Hid (CapOf x2) := hc2 HC1.out
  clear hb3 ht2 hf2 hc2 HT1 HF1 HC1
  go_wp2_with fail
  refine (marks_any q cq ms _ (HMI.out.below HE.out.bel) HML.out).mono ?_
  rintro e w4 ⟨xs, v4, rfl, hlen, hsca, hi4, hb4⟩
  obtain ⟨p4, c4, rfl, h4⟩ := hi4.inn
  replace HE := Lib.hid (HE.out.step hb4)
  replace HT2 := Lib.hid (HT2.out.below hb4)
  have H4 := Lib.hid h4
  clear hb4 hi4 h4 hsca
  go_wp2_with fail
  refine (agrees_at x2 T2 p4 c4 xs _ HT2.out HC2.out (HR.out.below HE.out.bel) H4.out (by omega)).mono ?_
  rintro e w5 ⟨rfl, hb5⟩
  replace HE := Lib.hid (HE.out.step hb5)
  clear hb5
  obtain ⟨⟨k0, k1, k2, k3, k4, k5⟩, ⟨k6, k7, k8, k9, k10, k11⟩⟩ := HE.out.box.load
  go_wp2_with fail
  refine (agrees_at y U q cq ms _ HE.out.tab HYC.out (HR.out.below HE.out.bel) (HMI.out.below HE.out.bel) HML.out).mono ?_
  rintro e w6 ⟨rfl, hb6⟩
  have HB6 := Lib.hid (HE.out.step hb6).bel
  clear hb6 k0 k1 k2 k3 k4 k5 k6 k7 k8 k9 k10 k11
  go_wp2
  go_ret
  exact ⟨rfl, HB6.out⟩

end Go.Proofs.YtnnhcgflmhjakaaGreatDoor
