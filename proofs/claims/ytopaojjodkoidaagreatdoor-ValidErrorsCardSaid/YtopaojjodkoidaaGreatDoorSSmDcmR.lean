/-
  The references of decompose: expand, One, NFD, IsNFD, Equivalent (genDcmR.py).
-/
import Derived.Test.YtopaojjodkoidaaGreatDoorSSmPkZ
import Derived.Test.YtopaojjodkoidaaGreatDoorSSmPkT
import Derived.Test.YtopaojjodkoidaaGreatDoorSSmPkS
import Derived.Test.YtopaojjodkoidaaGreatDoorSSmPkY
import Derived.Test.YtopaojjodkoidaaGreatDoorSSmTabRJ
set_option linter.unusedSimpArgs false
set_option linter.unusedVariables false
namespace Go.Proofs.YtopaojjodkoidaaGreatDoor
open Go.RowKit
set_option maxRecDepth 100000 in
set_option maxHeartbeats 4000000 in
theorem rexpand_at (x : TV) (T : Tb) (c : Int) (X : List Int) (w : World) (hx : TabV w x T) (hc : checkT T = 0) (hX : Hid (expT T c = X)) :
 Calls Tryz.prog 74 #[x.agg, .int .i64 c] w (GivesL X w) := by
 obtain ⟨J, hJ⟩ : ∃ J, Hid (decS c = J) := ⟨_, rfl⟩
 obtain ⟨n, hn⟩ : ∃ n, J.length = n := ⟨_, rfl⟩
 have HX1 : Hid (J ≠ [] → X = J) := fun h => by rw [← hX.out]; unfold expT; rw [hJ.out, if_neg h]
 have HX2 : Hid (J = [] → X = ful T.dec c) := fun h => by rw [← hX.out]; unfold expT; rw [hJ.out, if_pos h]
 have HXL : Hid (X.length ≤ 18) := by unfold Hid; rw [← hX.out]; exact (exp_len hc c).2
 have HFU : Hid (fullR T.dec 257 [c] = some (ful T.dec c)) := by unfold Hid; rw [full_eq (dec_few hc), if_pos (r6_fin (check_rules hc).2.2.2.2 c)]
 have HSH := Lib.hid (dec_short hc)
 have HE := Lib.hid (Env.new hx)
 have HN := Lib.hid hn
 clear hx hn hc hX
 simp only [TV.agg]
 go_enter Tryz.func74, Tryz.ntmps74
 go_wp2_with fail
 refine (rhdec_at c J _ hJ).mono ?_
 rintro e w1 ⟨pj, cj, rfl, hij, hb1⟩
 rw [HN.out]
 replace HE := Lib.hid (HE.out.step hb1)
 have HIJ := Lib.hid hij
 clear hij hb1
 by_cases h0 : 0 < n
 ·have d0 : decide ((0 : Int) < (n : Int)) = true := decide_eq_true (by omega)
  have HXJ : Hid (X = J) := HX1.out (fun e => by have := HN.out; rw [e] at this; simp at this; omega)
  go_wp2
  go_ret
  have h1 := HXL.out
  rw [HXJ.out] at h1 ⊢
  rw [HN.out] at h1
  exact ⟨_, _, _, rfl, HN.out, by omega, HIJ.out, HE.out.bel⟩
 ·obtain rfl : n = 0 := by omega
  have HJ0 : Hid (J = []) := List.eq_nil_of_length_eq_zero HN.out
  have HXF : Hid (X = ful T.dec c) := HX2.out HJ0.out
  clear h0
  obtain ⟨⟨k0, k1, k2, k3, k4, k5⟩, ⟨k6, k7, k8, k9, k10, k11⟩⟩ := HE.out.box.load
  go_wp2_with fail
  refine (rfull_at x T c _ _ HE.out.tab HSH.out HFU).mono ?_
  rintro e w2 ⟨hsome, _, hb2⟩
  obtain ⟨p2, n2, c2, rfl, hl2, hn2, hi2⟩ := hsome _ rfl
  replace HE := Lib.hid (HE.out.step hb2)
  have HL2 := Lib.hid hl2
  have HI2 := Lib.hid hi2
  clear hsome hb2 hl2 hi2 k0 k1 k2 k3 k4 k5 k6 k7 k8 k9 k10 k11
  go_wp2
  go_ret
  rw [HXF.out]
  exact ⟨_, _, _, rfl, HL2.out, by omega, HI2.out, HE.out.bel⟩
set_option maxRecDepth 100000 in
set_option maxHeartbeats 4000000 in
theorem rnfd_at (x : TV) (T : Tb) (p : Option Addr) (cap : Nat) (zs : List Int) (E : Int) (L : List Int) (w : World) (hx : TabV w x T) (hcap : CapOf x) (hin : IntsIn w p zs) (hl : zs.length ≤ 17592186043904)
 (hE : Hid (nfdE T zs = E)) (hL : Hid (nfdL T zs = L)) :
 Calls Tryz.prog 48 #[x.agg, .slice p zs.length cap] w (LRet L E w) := by
 obtain ⟨A, hA⟩ : ∃ A, Hid (accE T zs = A) := ⟨_, rfl⟩
 have HE := Lib.hid (Env.new hx)
 have HX := Lib.hid hx
 have HI := Lib.hid hin
 have hac := fun W (h1 : TabV W x T) h2 => racc_at x T p cap zs A W h1 hcap h2 hl hA
 obtain ⟨n, hn⟩ : ∃ n, zs.length = n := ⟨_, rfl⟩
 rw [hn] at hl hac ⊢
 have HN := Lib.hid hn
 have HAC := Lib.hid hac
 clear hx hin hn hcap hac
 simp only [TV.agg]
 go_enter Tryz.func48, Tryz.ntmps48
 obtain ⟨⟨k0, k1, k2, k3, k4, k5⟩, ⟨k6, k7, k8, k9, k10, k11⟩⟩ := HE.out.box.load
 go_wp2_with fail
 refine (HAC.out _ HE.out.tab (HI.out.below HE.out.bel)).mono ?_
 rintro e w1 ⟨rfl, hb1⟩
 have HZ : Hid (w.heap.size + 1 ≤ w1.heap.size) := by have := hb1.size; unfold Hid; simpa using this
 replace HE := Lib.hid (HE.out.step hb1)
 clear hb1 k0 k1 k2 k3 k4 k5 k6 k7 k8 k9 k10 k11
 by_cases h0 : A = 0
 ·subst h0
  have hn4 : n ≤ 4096 := by rw [← HN.out]; exact (accE_ok hA.out).2.1
  have HV : Hid (checkT T = 0) := (accE_ok hA.out).1
  go_wp2
  go_loopw [7, 9, 18] (fun u _ i wr => ∃ k : Nat, k ≤ n ∧ i = .int .i64 k ∧ Hid (Ints wr (w.heap.size + 1) u (flatT T (zs.take k))) ∧ Hid (Env w x T wr) ∧ Hid (w1.heap.size ≤ wr.heap.size)) (fun _ _ i _ => n - (intOf i).toNat)
  case atStart => exact ⟨0, Nat.zero_le _, rfl, by simpa [Hid, flatT] using Ints.nil _ _, HE, Nat.le_refl _⟩
  case round =>
   obtain ⟨k, hk, rfl, hown, he, HH⟩ := hrel
   by_cases hlt : k < n
   ·have hkl : k < zs.length := by rw [HN.out]; exact hlt
    obtain ⟨b, off, rfl, hck⟩ := (HI.out.below he.out.bel) k hkl
    obtain ⟨c, hc⟩ : ∃ c, zs.getD k 0 = c := ⟨_, rfl⟩
    have htk := all_take T zs k hkl
    have hpre := (all_len HV.out (zs.take k)).2
    rw [hc] at hck htk
    obtain ⟨X, hX⟩ : ∃ X, Hid (expT T c = X) := ⟨_, rfl⟩
    rw [hX.out] at htk
    have HTK := Lib.hid htk
    have HLE : Hid ((flatT T (zs.take k)).length + X.length ≤ 17592186043904) := by
     unfold Hid
     have := (exp_len HV.out c).2
     rw [hX.out] at this
     rw [List.length_take] at hpre
     omega
    clear hc htk hpre
    obtain ⟨⟨k0, k1, k2, k3, k4, k5⟩, ⟨k6, k7, k8, k9, k10, k11⟩⟩ := he.out.box.load
    go_wp2_with fail
    refine (rexpand_at x T c X _ he.out.tab HV.out hX).mono ?_
    rintro e w2 ⟨p2, n2, c2, rfl, hl2, hn2, hi2, hb2⟩
    have HE2 := Lib.hid (he.out.step hb2)
    have HO2 := Lib.hid (hown.out.below hb2)
    have HS2 := Lib.hid hb2.size
    have hbz : w.heap.size + 1 ≤ w2.heap.size := Nat.le_trans HZ.out (Nat.le_trans HH.out hb2.size)
    have HL2 := Lib.hid hl2
    have HI2 := Lib.hid hi2
    clear hb2 hl2 hn2 hi2 hck k0 k1 k2 k3 k4 k5 k6 k7 k8 k9 k10 k11
    go_wp2_with (at_builtin; (refine wpList_append_ints (.tmp 22) (.tmp 25) rfl rfl (w.heap.size + 1) u7 (flatT T (zs.take k)) rfl HO2.out p2 n2 c2 X HL2.out rfl HI2.out HLE.out hbz ?_); intro v1 w3 ho1 hg1)
    have HO3 : Hid (Ints w3 (w.heap.size + 1) v1 (flatT T (zs.take (k + 1)))) := by unfold Hid; rw [HTK.out]; exact ho1
    have HE3 : Hid (Env w x T w3) := HE2.out.app HX.out HO2.out hg1
    have HH3 : Hid (w1.heap.size ≤ w3.heap.size) := Nat.le_trans HH.out (Nat.le_trans HS2.out hg1.size)
    clear ho1 hg1 hbz
    go_wp2
    go_roundw
    case rel => exact ⟨k + 1, by omega, by go_num, HO3, HE3, HH3⟩
    case measure => simp [intOf]; omega
   ·obtain rfl : k = n := by omega
    have hown2 := hown.out
    rw [List.take_of_length_le (Nat.le_of_eq HN.out)] at hown2
    obtain ⟨pu, cu, hu, hiu⟩ := hown2.inn
    have HIU := Lib.hid hiu
    obtain ⟨nn, hnn⟩ : ∃ nn, (flatT T zs).length = nn := ⟨_, rfl⟩
    have hord := fun W (h1 : TabV W x T) h2 (h3 : (flatT T zs).length ≤ 4096) => rordered_at x T pu cu (flatT T zs) (ordS (clsT T) (flatT T zs)) W h1 h2 h3 rfl
    rw [hnn] at hu hord
    subst hu
    have HORD := Lib.hid hord
    have HNN := Lib.hid hnn
    clear hown2 hiu hnn hord
    by_cases hbig : 4096 < nn
    ·have d1 : decide ((4096 : Int) < (nn : Int)) = true := decide_eq_true (by omega)
     have hEE : nfdE T zs = 7 := nfdE_full hA.out (by rw [HNN.out]; exact hbig)
     have HEE : Hid (E = 7) := by unfold Hid; rw [← hE.out]; exact hEE
     have HLL : Hid (L = []) := by unfold Hid; rw [← hL.out]; exact nfdL_err (by rw [hEE]; decide)
     clear hbig hEE
     go_wp2
     go_ret2
     rw [HEE.out, HLL.out]
     exact ⟨_, rfl, Ints.nil _ _, he.out.bel⟩
    ·have d1 : decide ((4096 : Int) < (nn : Int)) = false := decide_eq_false (by omega)
     have d2 : ¬ (4096 < nn) := hbig
     have hle : nn ≤ 4096 := by omega
     have hEE : nfdE T zs = 0 := nfdE_ok hA.out (by rw [HNN.out]; exact hle)
     have HEE : Hid (E = 0) := by unfold Hid; rw [← hE.out]; exact hEE
     have HLL : Hid (L = ordS (clsT T) (flatT T zs)) := by unfold Hid; rw [← hL.out]; exact nfdL_ok hEE
     clear hbig hEE
     obtain ⟨⟨k0, k1, k2, k3, k4, k5⟩, ⟨k6, k7, k8, k9, k10, k11⟩⟩ := he.out.box.load
     go_wp2_with fail
     refine (HORD.out _ he.out.tab HIU.out hle).mono ?_
     rintro e w3 ⟨v3, rfl, ho3, hb3⟩
     have HO3 := Lib.hid (ho3.mono he.out.bel.size)
     have HB3 := Lib.hid (he.out.step hb3).bel
     clear ho3 hb3 k0 k1 k2 k3 k4 k5 k6 k7 k8 k9 k10 k11
     go_wp2
     go_ret2
     rw [HEE.out, HLL.out]
     exact ⟨_, rfl, HO3.out, HB3.out⟩
 ·have d0 : (A != 0) = true := by simp [h0]
  have HEE : Hid (E = A) := by unfold Hid; rw [← hE.out, ← hA.out]; exact nfdE_acc (by rw [hA.out]; exact h0)
  have HLL : Hid (L = []) := by unfold Hid; rw [← hL.out]; exact nfdL_err (by rw [nfdE_acc (by rw [hA.out]; exact h0), hA.out]; exact h0)
  clear h0
  go_wp2
  go_ret2
  rw [HEE.out, HLL.out]
  exact ⟨_, rfl, Ints.nil _ _, HE.out.bel⟩
end Go.Proofs.YtopaojjodkoidaaGreatDoor
