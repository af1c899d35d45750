/- joiner: contracts of the references Left, Right, JoinerPermi -/
import Derived.Test.YtopaojjodkoidaaGreatDoorSSmPkZZI
import Derived.Test.YtopaojjodkoidaaGreatDoorSSmPkZZG
import Derived.Test.YtopaojjodkoidaaGreatDoorSSmPkF
import Derived.BigRegion
import Derived.Deep.RegionHeld3
set_option linter.unusedSimpArgs false
set_option linter.unusedVariables false
namespace Go.Proofs.YtopaojjodkoidaaGreatDoor
open Go.RowKit
abbrev boxR (g : Nat) (x : TV) (b o : Nat) (c : Int) (w : World) : Prop := boxF g x w ∧ w.cell? ⟨b, o, none⟩ = some (.int .i64 c)
theorem jr_drop (l : List Int) (k : Nat) (h : k < l.length) : l.drop k = l.getD k 0 :: l.drop (k + 1) := by rw [List.drop_eq_getElem_cons h]; simp [h]
set_option maxRecDepth 100000 in
set_option maxHeartbeats 4000000 in
theorem rjleft_at (x : TV) (T : Tb) (p : Option Addr) (cap : Nat) (zs : List Int) (i R : Int) (w : World) (hx : TabV w x T) (hcap : CapOf x) (hin : IntsIn w p zs) (hl : zs.length ≤ 17592186043904) (hR : Hid (lefR T zs i = R)) :
 Calls Tryz.prog 99 #[x.agg, .slice p zs.length cap, .int .i64 i] w (Gives (.int .i64 R) w) := by
 obtain ⟨A, hA⟩ : ∃ A, Hid (accE T zs = A) := ⟨_, rfl⟩
 have HE := Lib.hid (Env.new hx)
 have HI := Lib.hid hin
 have hac := fun W (h1 : TabV W x T) h2 => racce_at x T p cap zs A W h1 hcap h2 hl hA
 obtain ⟨n, hn⟩ : ∃ n, zs.length = n := ⟨_, rfl⟩
 rw [hn] at hl hac ⊢
 have HN := Lib.hid hn
 have HAC := Lib.hid hac
 clear hx hin hac
 have HNN := HN.out
 simp only [TV.agg]
 go_enter Tryz.func99, Tryz.ntmps99
 by_cases h1 : i < 0
 ·have d1 : decide (i < 0) = true := decide_eq_true h1
  obtain rfl : R = -1 := by rw [← hR.out]; unfold lefR; rw [if_neg (fun h => by obtain ⟨q1, q2, q3⟩ := h; have := hA.out; omega)]
  go_wp2
  go_ret
  exact ⟨rfl, HE.out.bel⟩
 ·have d1 : decide (i < 0) = false := decide_eq_false h1
  by_cases h2 : (n : Int) ≤ i
  ·have d2 : decide ((n : Int) ≤ i) = true := decide_eq_true h2
   obtain rfl : R = -1 := by rw [← hR.out]; unfold lefR; rw [if_neg (fun h => by obtain ⟨q1, q2, q3⟩ := h; have := hA.out; omega)]
   go_wp2
   go_ret
   exact ⟨rfl, HE.out.bel⟩
  ·have d2 : decide ((n : Int) ≤ i) = false := decide_eq_false h2
   obtain ⟨m, rfl⟩ : ∃ m : Nat, i = m := ⟨i.toNat, by omega⟩
   have hm : m < n := by omega
   obtain ⟨⟨k0, k1, k2, k3, k4, k5⟩, ⟨k6, k7, k8, k9, k10, k11⟩⟩ := HE.out.box.load
   go_wp2_with fail
   refine (HAC.out _ HE.out.tab (HI.out.below HE.out.bel)).mono ?_
   rintro e w1 ⟨rfl, hb1⟩
   replace HE := Lib.hid (HE.out.step hb1)
   clear hb1 k0 k1 k2 k3 k4 k5 k6 k7 k8 k9 k10 k11
   by_cases h0 : A = 0
   ·subst h0
    have HRR : Hid (optI (lefK T zs m) = R) := by unfold Hid; rw [← lefR_ok (by rw [HN.out]; exact hm) hA.out]; exact hR.out
    clear hR
    go_wp2
    go_loopw [7, 8] (fun o kv wr => ∃ k : Nat, k ≤ m ∧ kv = .int .i64 k ∧ o = .int .i64 (optI (lefK T zs k)) ∧ Hid (Env w x T wr)) (fun _ kv _ => m - (intOf kv).toNat)
    case atStart => exact ⟨0, Nat.zero_le _, rfl, rfl, HE⟩
    case round =>
     obtain ⟨k, hk, rfl, rfl, he⟩ := hrel
     by_cases hlt : k < m
     ·have hkl : k < zs.length := by rw [HN.out]; omega
      obtain ⟨b, off, rfl, hck⟩ := (HI.out.below he.out.bel) k hkl
      obtain ⟨c, hc⟩ : ∃ c, zs.getD k 0 = c := ⟨_, rfl⟩
      rw [hc] at hck
      obtain ⟨z, hz⟩ : ∃ z, Hid (joiT T c = z) := ⟨_, rfl⟩
      have HST : Hid (lefK T zs (k + 1) = if z = 5 then lefK T zs k else some k) := by
       unfold Hid
       rw [lefK, hc]; unfold solB; rw [hz.out]
       by_cases h : z = 5 <;> simp [h]
      have HC2 : Hid (∀ W', Below wr.heap.size wr W' → W'.cell? ⟨b, off + k, none⟩ = some (.int .i64 c)) := fun W' hb => (hb.cell (p := ⟨b, off + k, none⟩) (World.block_lt_of_cell? wr _ hck)).trans hck
      have i0 : (0 : Int) ≤ (k : Int) := by omega
      have i1 : (k : Int) < (n : Int) := by omega
      have e0 := he.out.step (drew_one wr)
      have HE0 := Lib.hid e0
      clear e0 hc hkl
      go_upto_region 7 with (fail)
      obtain ⟨⟨k0, k1, k2, k3, k4, k5⟩, ⟨k6, k7, k8, k9, k10, k11⟩⟩ := he.out.box.load
      go_region_held3 (boxR w.heap.size x b (off + k) c)
       (first
        | exact ⟨HE0.out.box.flat, by first | exact HC2.out _ (drew_one wr) | exact HC2.out _ ((drew_one wr).trans (hb3.mono (drew_one wr).size))⟩
        | exact ⟨(HE0.out.step hb3).box.flat, by first | exact HC2.out _ (drew_one wr) | exact HC2.out _ ((drew_one wr).trans (hb3.mono (drew_one wr).size))⟩)
       (first
        | (go_at_call 101; (with_reducible refine (rjoining_at x T c z _ HE0.out.tab hz).mono ?_); rintro e w3 ⟨rfl, hb3⟩)
        | fail)
      all_goals
       have he2 := Lib.hid (HE0.out.step hb3)
       clear hb3 HE0 hck k0 k1 k2 k3 k4 k5 k6 k7 k8 k9 k10 k11
       by_cases h5 : z = 5
       ·have d5 : (z != 5) = false := by simp [h5]
        have HK2 : Hid (lefK T zs (k + 1) = lefK T zs k) := by unfold Hid; rw [HST.out, if_pos h5]
        clear h5
        go_wp2
        go_roundw
        case rel => exact ⟨k + 1, by omega, by go_num, by rw [HK2.out], he2⟩
        case measure => simp [intOf]; omega
       ·have d5 : (z != 5) = true := by simp [h5]
        have HK2 : Hid (lefK T zs (k + 1) = some k) := by unfold Hid; rw [HST.out, if_neg h5]
        clear h5
        go_wp2
        go_roundw
        case rel => exact ⟨k + 1, by omega, by go_num, by rw [HK2.out]; rfl, he2⟩
        case measure => simp [intOf]; omega
     ·obtain rfl : k = m := by omega
      go_wp2
      go_ret
      exact ⟨by rw [← HRR.out]; rfl, he.out.bel⟩
   ·have d0 : (A != 0) = true := by simp [h0]
    obtain rfl : R = -1 := by rw [← hR.out]; unfold lefR; rw [if_neg (fun h => by obtain ⟨q1, q2, q3⟩ := h; have := hA.out; omega)]
    clear h0
    go_wp2
    go_ret
    exact ⟨rfl, HE.out.bel⟩
set_option maxRecDepth 100000 in
set_option maxHeartbeats 4000000 in
theorem rjright_at (x : TV) (T : Tb) (p : Option Addr) (cap : Nat) (zs : List Int) (i R : Int) (w : World) (hx : TabV w x T) (hcap : CapOf x) (hin : IntsIn w p zs) (hl : zs.length ≤ 17592186043904) (hR : Hid (rigR T zs i = R)) :
 Calls Tryz.prog 100 #[x.agg, .slice p zs.length cap, .int .i64 i] w (Gives (.int .i64 R) w) := by
 obtain ⟨A, hA⟩ : ∃ A, Hid (accE T zs = A) := ⟨_, rfl⟩
 have HE := Lib.hid (Env.new hx)
 have HI := Lib.hid hin
 have hac := fun W (h1 : TabV W x T) h2 => racce_at x T p cap zs A W h1 hcap h2 hl hA
 obtain ⟨n, hn⟩ : ∃ n, zs.length = n := ⟨_, rfl⟩
 rw [hn] at hl hac ⊢
 have HN := Lib.hid hn
 have HAC := Lib.hid hac
 clear hx hin hac
 have HNN := HN.out
 simp only [TV.agg]
 go_enter Tryz.func100, Tryz.ntmps100
 by_cases h1 : i < 0
 ·have d1 : decide (i < 0) = true := decide_eq_true h1
  obtain rfl : R = -1 := by rw [← hR.out]; unfold rigR; rw [if_neg (fun h => by obtain ⟨q1, q2, q3⟩ := h; have := hA.out; omega)]
  go_wp2
  go_ret
  exact ⟨rfl, HE.out.bel⟩
 ·have d1 : decide (i < 0) = false := decide_eq_false h1
  by_cases h2 : (n : Int) ≤ i
  ·have d2 : decide ((n : Int) ≤ i) = true := decide_eq_true h2
   obtain rfl : R = -1 := by rw [← hR.out]; unfold rigR; rw [if_neg (fun h => by obtain ⟨q1, q2, q3⟩ := h; have := hA.out; omega)]
   go_wp2
   go_ret
   exact ⟨rfl, HE.out.bel⟩
  ·have d2 : decide ((n : Int) ≤ i) = false := decide_eq_false h2
   obtain ⟨m, rfl⟩ : ∃ m : Nat, i = m := ⟨i.toNat, by omega⟩
   have hm : m < n := by omega
   obtain ⟨⟨k0, k1, k2, k3, k4, k5⟩, ⟨k6, k7, k8, k9, k10, k11⟩⟩ := HE.out.box.load
   go_wp2_with fail
   refine (HAC.out _ HE.out.tab (HI.out.below HE.out.bel)).mono ?_
   rintro e w1 ⟨rfl, hb1⟩
   replace HE := Lib.hid (HE.out.step hb1)
   clear hb1 k0 k1 k2 k3 k4 k5 k6 k7 k8 k9 k10 k11
   by_cases h0 : A = 0
   ·subst h0
    have HRR : Hid (optI (rigL T (m + 1) (zs.drop (m + 1))) = R) := by unfold Hid; have := rigR_ok (T := T) (l := zs) (k := m) (by rw [HN.out]; exact hm) hA.out; rw [hR.out] at this; exact this.symm
    have s1 : IntKind.i64.wrap ((n : Int) - 1) = (n : Int) - 1 := IntWalk.i64_in _ (by omega)
    clear hR
    go_wp2
    go_loopw [7, 8] (fun o kv wr => ∃ j : Nat, m + 1 ≤ j ∧ j ≤ n ∧ kv = .int .i64 ((j : Int) - 1) ∧ o = .int .i64 (optI (rigL T j (zs.drop j))) ∧ Hid (Env w x T wr)) (fun _ kv _ => (intOf kv + 1).toNat)
    case atStart => exact ⟨n, by omega, Nat.le_refl _, rfl, by rw [List.drop_eq_nil_of_le (by rw [HN.out]; exact Nat.le_refl _)]; rfl, HE⟩
    case round =>
     obtain ⟨j, hjm, hj, rfl, rfl, he⟩ := hrel
     by_cases hlt : m + 1 < j
     ·obtain ⟨k, rfl⟩ : ∃ k, j = k + 1 := ⟨j - 1, by omega⟩
      have hi1 : (((k + 1 : Nat) : Int) - 1) = (k : Int) := by omega
      rw [hi1]
      have hkl : k < zs.length := by rw [HN.out]; omega
      obtain ⟨b, off, rfl, hck⟩ := (HI.out.below he.out.bel) k hkl
      obtain ⟨c, hc⟩ : ∃ c, zs.getD k 0 = c := ⟨_, rfl⟩
      rw [hc] at hck
      obtain ⟨z, hz⟩ : ∃ z, Hid (joiT T c = z) := ⟨_, rfl⟩
      have HST : Hid (rigL T k (zs.drop k) = if z = 5 then rigL T (k + 1) (zs.drop (k + 1)) else some k) := by
       unfold Hid
       rw [jr_drop zs k hkl, rigL, hc]; unfold solB; rw [hz.out]
       by_cases h : z = 5 <;> simp [h]
      have HC2 : Hid (∀ W', Below wr.heap.size wr W' → W'.cell? ⟨b, off + k, none⟩ = some (.int .i64 c)) := fun W' hb => (hb.cell (p := ⟨b, off + k, none⟩) (World.block_lt_of_cell? wr _ hck)).trans hck
      have i0 : (0 : Int) ≤ (k : Int) := by omega
      have i1 : (k : Int) < (n : Int) := by omega
      have hmk : m < k := by omega
      have i2 : decide ((m : Int) < (k : Int)) = true := decide_eq_true (by omega)
      have i3 : IntKind.i64.wrap ((k : Int) - 1) = (k : Int) - 1 := IntWalk.i64_in _ (by omega)
      have e0 := he.out.step (drew_one wr)
      have HE0 := Lib.hid e0
      clear e0 hc hkl
      go_upto_region 7 with (fail)
      obtain ⟨⟨k0, k1, k2, k3, k4, k5⟩, ⟨k6, k7, k8, k9, k10, k11⟩⟩ := he.out.box.load
      go_region_held3 (boxR w.heap.size x b (off + k) c)
       (first
        | exact ⟨HE0.out.box.flat, by first | exact HC2.out _ (drew_one wr) | exact HC2.out _ ((drew_one wr).trans (hb3.mono (drew_one wr).size))⟩
        | exact ⟨(HE0.out.step hb3).box.flat, by first | exact HC2.out _ (drew_one wr) | exact HC2.out _ ((drew_one wr).trans (hb3.mono (drew_one wr).size))⟩)
       (first
        | (go_at_call 101; (with_reducible refine (rjoining_at x T c z _ HE0.out.tab hz).mono ?_); rintro e w3 ⟨rfl, hb3⟩)
        | fail)
      all_goals
       have he2 := Lib.hid (HE0.out.step hb3)
       clear hb3 HE0 hck k0 k1 k2 k3 k4 k5 k6 k7 k8 k9 k10 k11
       by_cases h5 : z = 5
       ·have d5 : (z != 5) = false := by simp [h5]
        have HK2 : Hid (rigL T k (zs.drop k) = rigL T (k + 1) (zs.drop (k + 1))) := by unfold Hid; rw [HST.out, if_pos h5]
        clear h5
        go_wp2
        go_roundw
        case rel => exact ⟨k, by omega, by omega, rfl, by rw [HK2.out], he2⟩
        case measure => first | (simp [intOf]; done) | (simp [intOf]; omega)
       ·have d5 : (z != 5) = true := by simp [h5]
        have HK2 : Hid (rigL T k (zs.drop k) = some k) := by unfold Hid; rw [HST.out, if_neg h5]
        clear h5
        go_wp2
        go_roundw
        case rel => exact ⟨k, by omega, by omega, rfl, by rw [HK2.out]; rfl, he2⟩
        case measure => first | (simp [intOf]; done) | (simp [intOf]; omega)
     ·obtain rfl : j = m + 1 := by omega
      have hi1 : (((m + 1 : Nat) : Int) - 1) = (m : Int) := by omega
      rw [hi1]
      have hmk : ¬ m < m := by omega
      have i2 : decide ((m : Int) < (m : Int)) = false := decide_eq_false (by omega)
      go_wp2
      go_ret
      exact ⟨by rw [← HRR.out]; rfl, he.out.bel⟩
   ·have d0 : (A != 0) = true := by simp [h0]
    obtain rfl : R = -1 := by rw [← hR.out]; unfold rigR; rw [if_neg (fun h => by obtain ⟨q1, q2, q3⟩ := h; have := hA.out; omega)]
    clear h0
    go_wp2
    go_ret
    exact ⟨rfl, HE.out.bel⟩
set_option maxRecDepth 100000 in
set_option maxHeartbeats 4000000 in
theorem rjperm_at (x : TV) (T : Tb) (p : Option Addr) (cap : Nat) (zs : List Int) (i : Int) (R : Bool) (w : World) (hx : TabV w x T) (hcap : CapOf x) (hin : IntsIn w p zs) (hl : zs.length ≤ 17592186043904) (hR : Hid (perR T zs i = R)) :
 Calls Tryz.prog 72 #[x.agg, .slice p zs.length cap, .int .i64 i] w (Gives (.bool R) w) := by
 obtain ⟨A, hA⟩ : ∃ A, Hid (accE T zs = A) := ⟨_, rfl⟩
 have HE := Lib.hid (Env.new hx)
 have HI := Lib.hid hin
 have hac := fun W (h1 : TabV W x T) h2 => racce_at x T p cap zs A W h1 hcap h2 hl hA
 have hlc := fun k R W (h1 : TabV W x T) h2 hR => rjleft_at x T p cap zs k R W h1 hcap h2 hl hR
 have hrc := fun k R W (h1 : TabV W x T) h2 hR => rjright_at x T p cap zs k R W h1 hcap h2 hl hR
 obtain ⟨n, hn⟩ : ∃ n, zs.length = n := ⟨_, rfl⟩
 rw [hn] at hl hac hlc hrc ⊢
 have HN := Lib.hid hn
 have HAC := Lib.hid hac
 have HLC := Lib.hid hlc
 have HRC := Lib.hid hrc
 clear hx hin hac hlc hrc
 have HNN := HN.out
 simp only [TV.agg]
 go_enter Tryz.func72, Tryz.ntmps72
 by_cases h1 : i < 0
 ·have d1 : decide (i < 0) = true := decide_eq_true h1
  obtain rfl : R = false := by rw [← hR.out]; unfold perR; rw [decide_eq_false (fun h => by obtain ⟨q1, q2, q3⟩ := h; have := hA.out; omega)]; rfl
  go_wp2
  go_ret
  exact ⟨rfl, HE.out.bel⟩
 ·have d1 : decide (i < 0) = false := decide_eq_false h1
  by_cases h2 : (n : Int) ≤ i
  ·have d2 : decide ((n : Int) ≤ i) = true := decide_eq_true h2
   obtain rfl : R = false := by rw [← hR.out]; unfold perR; rw [decide_eq_false (fun h => by obtain ⟨q1, q2, q3⟩ := h; have := hA.out; omega)]; rfl
   go_wp2
   go_ret
   exact ⟨rfl, HE.out.bel⟩
  ·have d2 : decide ((n : Int) ≤ i) = false := decide_eq_false h2
   obtain ⟨m, rfl⟩ : ∃ m : Nat, i = m := ⟨i.toNat, by omega⟩
   have hm : m < n := by omega
   obtain ⟨⟨k0, k1, k2, k3, k4, k5⟩, ⟨k6, k7, k8, k9, k10, k11⟩⟩ := HE.out.box.load
   go_wp2_with fail
   refine (HAC.out _ HE.out.tab (HI.out.below HE.out.bel)).mono ?_
   rintro e w1 ⟨rfl, hb1⟩
   replace HE := Lib.hid (HE.out.step hb1)
   clear hb1 k0 k1 k2 k3 k4 k5 k6 k7 k8 k9 k10 k11
   by_cases h0 : A = 0
   ·subst h0
    have HRR : Hid (permB T zs m = R) := by unfold Hid; rw [← perR_ok (by rw [HN.out]; exact hm) hA.out]; exact hR.out
    have hml : m < zs.length := by rw [HN.out]; exact hm
    have HLV := Lib.hid (lefR_ok hml hA.out)
    have HRV := Lib.hid (rigR_ok hml hA.out)
    obtain ⟨b, off, rfl, hck⟩ := (HI.out.below HE.out.bel) m hml
    obtain ⟨c, hc⟩ : ∃ c, zs.getD m 0 = c := ⟨_, rfl⟩
    rw [hc] at hck
    obtain ⟨Z, hZ⟩ : ∃ Z, aftV T zs m = Z := ⟨_, rfl⟩
    have HPM : Hid (R = if c ≠ 8204 ∧ c ≠ 8205 then true else Z || (decide (c = 8204) && betB T zs m)) := by unfold Hid; rw [← HRR.out]; unfold permB; rw [hc, hZ]
    obtain ⟨V, hV⟩ : ∃ V : Bool, (decide (c ≠ 8204 ∧ c ≠ 8205) || Z) = V := ⟨_, rfl⟩
    have HV := Lib.hid hV
    have HZ := Lib.hid hZ
    have i0 : (0 : Int) ≤ (m : Int) := by omega
    have i1 : (m : Int) < (n : Int) := by omega
    have HC := Lib.hid hc
    clear hR hc hZ hV
    go_upto_region 3 with (fail)
    obtain ⟨⟨k0, k1, k2, k3, k4, k5⟩, ⟨k6, k7, k8, k9, k10, k11⟩⟩ := HE.out.box.load
    go_cut [50] (fun v wx => v = .bool V ∧ Hid (Env w x T wx))
    case first =>
     have K19 := fun p => layB_cell hck p
     have K0 := fun p => layB_cell k0 p
     have K1 := fun p => layB_cell k1 p
     have K2 := fun p => layB_cell k2 p
     have K3 := fun p => layB_cell k3 p
     have K4 := fun p => layB_cell k4 p
     have K5 := fun p => layB_cell k5 p
     have K6 := fun p => layB_cell k6 p
     have K7 := fun p => layB_cell k7 p
     have K8 := fun p => layB_cell k8 p
     have K9 := fun p => layB_cell k9 p
     have K10 := fun p => layB_cell k10 p
     have K11 := fun p => layB_cell k11 p
     clear k0 k1 k2 k3 k4 k5 k6 k7 k8 k9 k10 k11
     by_cases h4 : c = 8204
     ·subst h4
      have hV2 : V = Z := by rw [← HV.out]; simp
      subst hV2
      by_cases hk0 : m = 0
      ·have hZf : V = false := by rw [← HZ.out]; unfold aftV; rw [decide_eq_false (by omega)]; rfl
       subst hZf
       have d0 : decide ((0 : Int) < (m : Int)) = false := decide_eq_false (by omega)
       have hk1 : ¬ 0 < m := by omega
       clear hk0
       refine wp_region_layB (by kernel_rfl) (by kernel_rfl) ?_
       repeat (go_big_quiet_step (fail))
       refine wpQuiet_nil ?_
       intro _ hw'
       obtain ⟨pq, hw''⟩ := hw'
       subst hw''
       go_wp2_with fail
       go_meet
       exact ⟨rfl, HE.out.step (layB_below w1 pq)⟩
      ·obtain ⟨k', hk'⟩ : ∃ j, j + 1 = m := ⟨m - 1, by omega⟩
       obtain ⟨b2, off2, e2, hc2⟩ := (HI.out.below HE.out.bel) k' (by omega)
       injection e2 with e2
       injection e2 with e2 e3 _
       subst e2
       subst e3
       obtain ⟨c2, hcc2⟩ : ∃ c, zs.getD k' 0 = c := ⟨_, rfl⟩
       rw [hcc2] at hc2
       obtain ⟨z, hz⟩ : ∃ z, Hid (clsT T c2 = z) := ⟨_, rfl⟩
       have hZz : V = (z == 9) := by
        rw [← HZ.out]; unfold aftV
        rw [decide_eq_true (by omega), show m - 1 = k' by omega, hcc2, hz.out]; simp; rfl
       subst hZz
       have d0 : decide ((0 : Int) < (m : Int)) = true := decide_eq_true (by omega)
       have hk1 : 0 < m := by omega
       have j0 : (0 : Int) ≤ (k' : Int) := by omega
       have j1 : (k' : Int) < (n : Int) := by omega
       have e1 : (m : Int) - 1 = (k' : Int) := by omega
       have e2 : IntKind.i64.wrap (k' : Int) = (k' : Int) := IntWalk.i64_in _ (by omega)
       have K20 := fun p => layB_cell hc2 p
       have cc := fun p => layB_call (p := p) fun W2 hW2 => rclass_at x T c2 z W2 (HE.out.tab.below hW2) hz
       simp only [TV.agg] at cc
       have CC := Lib.hid cc
       clear cc hcc2 hc2 hk' hk0
       refine wp_region_layB (by kernel_rfl) (by kernel_rfl) ?_
       repeat (go_big_quiet_step ((go_at_call 49; with_reducible exact CC.out _)))
       refine wpQuiet_nil ?_
       intro _ hw'
       obtain ⟨pq, hw''⟩ := hw'
       subst hw''
       go_wp2_with fail
       go_meet
       exact ⟨rfl, HE.out.step (layB_below w1 pq)⟩
     ·by_cases h5 : c = 8205
      ·subst h5
       have hV2 : V = Z := by rw [← HV.out]; simp
       subst hV2
       by_cases hk0 : m = 0
       ·have hZf : V = false := by rw [← HZ.out]; unfold aftV; rw [decide_eq_false (by omega)]; rfl
        subst hZf
        have d0 : decide ((0 : Int) < (m : Int)) = false := decide_eq_false (by omega)
        have hk1 : ¬ 0 < m := by omega
        clear hk0
        refine wp_region_layB (by kernel_rfl) (by kernel_rfl) ?_
        repeat (go_big_quiet_step (fail))
        refine wpQuiet_nil ?_
        intro _ hw'
        obtain ⟨pq, hw''⟩ := hw'
        subst hw''
        go_wp2_with fail
        go_meet
        exact ⟨rfl, HE.out.step (layB_below w1 pq)⟩
       ·obtain ⟨k', hk'⟩ : ∃ j, j + 1 = m := ⟨m - 1, by omega⟩
        obtain ⟨b2, off2, e2, hc2⟩ := (HI.out.below HE.out.bel) k' (by omega)
        injection e2 with e2
        injection e2 with e2 e3 _
        subst e2
        subst e3
        obtain ⟨c2, hcc2⟩ : ∃ c, zs.getD k' 0 = c := ⟨_, rfl⟩
        rw [hcc2] at hc2
        obtain ⟨z, hz⟩ : ∃ z, Hid (clsT T c2 = z) := ⟨_, rfl⟩
        have hZz : V = (z == 9) := by
         rw [← HZ.out]; unfold aftV
         rw [decide_eq_true (by omega), show m - 1 = k' by omega, hcc2, hz.out]; simp; rfl
        subst hZz
        have d0 : decide ((0 : Int) < (m : Int)) = true := decide_eq_true (by omega)
        have hk1 : 0 < m := by omega
        have j0 : (0 : Int) ≤ (k' : Int) := by omega
        have j1 : (k' : Int) < (n : Int) := by omega
        have e1 : (m : Int) - 1 = (k' : Int) := by omega
        have e2 : IntKind.i64.wrap (k' : Int) = (k' : Int) := IntWalk.i64_in _ (by omega)
        have K20 := fun p => layB_cell hc2 p
        have cc := fun p => layB_call (p := p) fun W2 hW2 => rclass_at x T c2 z W2 (HE.out.tab.below hW2) hz
        simp only [TV.agg] at cc
        have CC := Lib.hid cc
        clear cc hcc2 hc2 hk' hk0
        refine wp_region_layB (by kernel_rfl) (by kernel_rfl) ?_
        repeat (go_big_quiet_step ((go_at_call 49; with_reducible exact CC.out _)))
        refine wpQuiet_nil ?_
        intro _ hw'
        obtain ⟨pq, hw''⟩ := hw'
        subst hw''
        go_wp2_with fail
        go_meet
        exact ⟨rfl, HE.out.step (layB_below w1 pq)⟩
      ·have hV2 : V = true := by rw [← HV.out]; simp [h4, h5]
       subst hV2
       have d4 : (c != 8204) = true := by simp [h4]
       have d5 : (c != 8205) = true := by simp [h5]
       clear h4 h5
       refine wp_region_layB (by kernel_rfl) (by kernel_rfl) ?_
       repeat (go_big_quiet_step (fail))
       refine wpQuiet_nil ?_
       intro _ hw'
       obtain ⟨pq, hw''⟩ := hw'
       subst hw''
       go_wp2_with fail
       go_meet
       exact ⟨rfl, HE.out.step (layB_below w1 pq)⟩
    case rest =>
     obtain ⟨rfl, HE2⟩ := hcut
     generalize wc = W1 at HE2 ⊢
     cases V with
     | true =>
      have hR1 : R = true := by
       have h1 := HPM.out
       have h2 := HV.out
       by_cases h : c ≠ 8204 ∧ c ≠ 8205
       ·rw [if_pos h] at h1; exact h1
       ·rw [if_neg h] at h1
        rw [decide_eq_false h, Bool.false_or] at h2
        rw [h1, h2]; rfl
      go_wp2
      go_ret
      exact ⟨by rw [hR1]; rfl, HE2.out.bel⟩
     | false =>
      have hcv : ¬ (c ≠ 8204 ∧ c ≠ 8205) ∧ Z = false := by
       have h2 := HV.out
       simp only [Bool.or_eq_false_iff, decide_eq_false_iff_not] at h2
       exact h2
      obtain ⟨hcn, rfl⟩ := hcv
      have HP2 : Hid (R = (decide (c = 8204) && betB T zs m)) := by unfold Hid; rw [HPM.out, if_neg hcn, Bool.false_or]
      obtain ⟨a, ha⟩ : ∃ a, Hid (lefR T zs m = a) := ⟨_, rfl⟩
      obtain ⟨d, hd⟩ : ∃ a, Hid (rigR T zs m = a) := ⟨_, rfl⟩
      obtain ⟨b3, off3, e3, hck3⟩ := (HI.out.below HE2.out.bel) m hml
      injection e3 with e3
      injection e3 with e3 e4 _
      subst e3
      subst e4
      have cl := fun p => layB_call (p := p) fun W2 hW2 => HLC.out m a W2 (HE2.out.tab.below hW2) ((HI.out.below HE2.out.bel).below hW2) ha
      have cr := fun p => layB_call (p := p) fun W2 hW2 => HRC.out m d W2 (HE2.out.tab.below hW2) ((HI.out.below HE2.out.bel).below hW2) hd
      simp only [TV.agg] at cl cr
      have CL := Lib.hid cl
      have CR := Lib.hid cr
      clear cl cr hck3 hck
      go_upto_region 5 with (fail)
      obtain ⟨⟨k0, k1, k2, k3, k4, k5⟩, ⟨k6, k7, k8, k9, k10, k11⟩⟩ := HE2.out.box.load
      have K0 := fun p => layB_cell k0 p
      have K1 := fun p => layB_cell k1 p
      have K2 := fun p => layB_cell k2 p
      have K3 := fun p => layB_cell k3 p
      have K4 := fun p => layB_cell k4 p
      have K5 := fun p => layB_cell k5 p
      have K6 := fun p => layB_cell k6 p
      have K7 := fun p => layB_cell k7 p
      have K8 := fun p => layB_cell k8 p
      have K9 := fun p => layB_cell k9 p
      have K10 := fun p => layB_cell k10 p
      have K11 := fun p => layB_cell k11 p
      clear k0 k1 k2 k3 k4 k5 k6 k7 k8 k9 k10 k11
      refine wp_region_layB (by kernel_rfl) (by kernel_rfl) ?_
      repeat (go_big_quiet_step (first | (go_at_call 99; with_reducible exact CL.out _) | (go_at_call 100; with_reducible exact CR.out _)))
      refine wpQuiet_nil ?_
      intro _ hw'
      obtain ⟨pq, hw''⟩ := hw'
      subst hw''
      have HE3 := Lib.hid (HE2.out.step (layB_below W1 pq))
      generalize layB W1 pq = W3 at HE3 ⊢
      obtain ⟨b4, off4, e5, hck4⟩ := (HI.out.below HE3.out.bel) m hml
      injection e5 with e5
      injection e5 with e5 e6 _
      subst e5
      subst e6
      rw [HC.out] at hck4
      have hla : a = optI (lefK T zs m) := by rw [← ha.out]; exact HLV.out
      have hrd : d = optI (rigK T zs m) := by rw [← hd.out]; exact HRV.out
      by_cases h5 : c = 8205
      ·subst h5
       obtain rfl : R = false := by rw [HP2.out]; rfl
       clear hla hrd
       go_wp2
       go_ret
       exact ⟨rfl, HE3.out.bel⟩
      ·have h4 : c = 8204 := Classical.byContradiction fun h => hcn ⟨h, h5⟩
       subst h4
       have HP3 : Hid (R = betB T zs m) := by unfold Hid; rw [HP2.out]; simp
       clear h5 hcn
       cases e1 : lefK T zs m with
       | none =>
        rw [e1] at hla
        obtain rfl : a = -1 := hla
        obtain rfl : R = false := by rw [HP3.out]; unfold betB; rw [e1]
        clear hrd
        go_wp2
        go_ret
        exact ⟨rfl, HE3.out.bel⟩
       | some a' =>
        rw [e1] at hla
        obtain rfl : a = (a' : Int) := hla
        have d1a : decide ((a' : Int) < 0) = false := decide_eq_false (by omega)
        have ham := ((lefK_some T zs m a').1 e1).1
        cases e2 : rigK T zs m with
        | none =>
         rw [e2] at hrd
         obtain rfl : d = -1 := hrd
         obtain rfl : R = false := by rw [HP3.out]; unfold betB; rw [e1, e2]
         go_wp2
         go_ret
         exact ⟨rfl, HE3.out.bel⟩
        | some d' =>
         rw [e2] at hrd
         obtain rfl : d = (d' : Int) := hrd
         have d1d : decide ((d' : Int) < 0) = false := decide_eq_false (by omega)
         have hdn := ((rigK_some T zs m d').1 e2).2.1
         obtain ⟨z1, hz1⟩ : ∃ z, Hid (joiT T (zs.getD a' 0) = z) := ⟨_, rfl⟩
         obtain ⟨z2, hz2⟩ : ∃ z, Hid (joiT T (zs.getD d' 0) = z) := ⟨_, rfl⟩
         have HF : Hid (R = ((decide (z1 = 1) || decide (z1 = 3)) && (decide (z2 = 2) || decide (z2 = 3)))) := by
          unfold Hid; rw [HP3.out]; unfold betB; rw [e1, e2]; simp only; unfold joL joR; rw [hz1.out, hz2.out]
         have a0 : (0 : Int) ≤ (a' : Int) := by omega
         have a1 : (a' : Int) < (n : Int) := by omega
         have b0 : (0 : Int) ≤ (d' : Int) := by omega
         have b1 : (d' : Int) < (n : Int) := by have := HN.out; omega
         obtain ⟨b5, off5, e5, hck5⟩ := (HI.out.below HE3.out.bel) a' (by omega)
         injection e5 with e5
         injection e5 with e5 e6 _
         subst e5
         subst e6
         obtain ⟨b6, off6, e7, hck6⟩ := (HI.out.below HE3.out.bel) d' hdn
         injection e7 with e7
         injection e7 with e7 e8 _
         subst e7
         subst e8
         have K20 := fun p => layB_cell hck5 p
         have K21 := fun p => layB_cell hck6 p
         have cx := fun p => layB_call (p := p) fun W2 hW2 => rjoining_at x T (zs.getD a' 0) z1 W2 (HE3.out.tab.below hW2) hz1
         have cy := fun p => layB_call (p := p) fun W2 hW2 => rjoining_at x T (zs.getD d' 0) z2 W2 (HE3.out.tab.below hW2) hz2
         simp only [TV.agg] at cx cy
         have CX := Lib.hid cx
         have CY := Lib.hid cy
         clear cx cy ham hdn e1 e2
         generalize zs.getD a' 0 = y1 at K20 CX hck5 hz1
         generalize zs.getD d' 0 = y2 at K21 CY hck6 hz2
         go_upto_region 8 with (fail)
         clear hck5 hck6
         obtain ⟨⟨k0, k1, k2, k3, k4, k5⟩, ⟨k6, k7, k8, k9, k10, k11⟩⟩ := HE3.out.box.load
         have K0 := fun p => layB_cell k0 p
         have K1 := fun p => layB_cell k1 p
         have K2 := fun p => layB_cell k2 p
         have K3 := fun p => layB_cell k3 p
         have K4 := fun p => layB_cell k4 p
         have K5 := fun p => layB_cell k5 p
         have K6 := fun p => layB_cell k6 p
         have K7 := fun p => layB_cell k7 p
         have K8 := fun p => layB_cell k8 p
         have K9 := fun p => layB_cell k9 p
         have K10 := fun p => layB_cell k10 p
         have K11 := fun p => layB_cell k11 p
         clear k0 k1 k2 k3 k4 k5 k6 k7 k8 k9 k10 k11
         refine wp_region_layB (by kernel_rfl) (by kernel_rfl) ?_
         repeat (go_big_quiet_step (first | (go_at_call 101; with_reducible exact CX.out _) | (go_at_call 101; with_reducible exact CY.out _)))
         refine wpQuiet_nil ?_
         intro _ hw'
         obtain ⟨pq, hw''⟩ := hw'
         subst hw''
         have HE4 := Lib.hid (HE3.out.step (layB_below W3 pq))
         generalize layB W3 pq = W4 at HE4 ⊢
         by_cases h11 : z1 = 1
         ·subst h11
          by_cases h22 : z2 = 2
          ·subst h22
           obtain rfl : R = true := by rw [HF.out]; decide
           go_wp2
           go_ret
           exact ⟨rfl, HE4.out.bel⟩
          ·have z22 : (z2 == 2) = false := by simp [h22]
           by_cases h23 : z2 = 3
           ·subst h23
            obtain rfl : R = true := by rw [HF.out]; decide
            go_wp2
            go_ret
            exact ⟨rfl, HE4.out.bel⟩
           ·have z23 : (z2 == 3) = false := by simp [h23]
            obtain rfl : R = false := by rw [HF.out]; simp [h22, h23]
            go_wp2
            go_ret
            exact ⟨rfl, HE4.out.bel⟩
         ·have z11 : (z1 == 1) = false := by simp [h11]
          by_cases h13 : z1 = 3
          ·subst h13
           by_cases h22 : z2 = 2
           ·subst h22
            obtain rfl : R = true := by rw [HF.out]; decide
            go_wp2
            go_ret
            exact ⟨rfl, HE4.out.bel⟩
           ·have z22 : (z2 == 2) = false := by simp [h22]
            by_cases h23 : z2 = 3
            ·subst h23
             obtain rfl : R = true := by rw [HF.out]; decide
             go_wp2
             go_ret
             exact ⟨rfl, HE4.out.bel⟩
            ·have z23 : (z2 == 3) = false := by simp [h23]
             obtain rfl : R = false := by rw [HF.out]; simp [h22, h23]
             go_wp2
             go_ret
             exact ⟨rfl, HE4.out.bel⟩
          ·have z13 : (z1 == 3) = false := by simp [h13]
           obtain rfl : R = false := by rw [HF.out]; simp [h11, h13]
           go_wp2
           go_ret
           exact ⟨rfl, HE4.out.bel⟩
   ·have d0 : (A != 0) = true := by simp [h0]
    obtain rfl : R = false := by rw [← hR.out]; unfold perR; rw [decide_eq_false (fun h => by obtain ⟨q1, q2, q3⟩ := h; have := hA.out; omega)]; rfl
    clear h0
    go_wp2
    go_ret
    exact ⟨rfl, HE.out.bel⟩
theorem badJ_first {T : Tb} {l : List Int} : ∀ (d m k : Nat), m ≤ k → k < m + d → (∀ j, m ≤ j → j < k → permB T l j = true) → permB T l k = false → badJ T l d m = some k
 | 0, m, k, h1, h2, _, _ => by omega
 | d + 1, m, k, h1, h2, hg, hz => by
  rw [badJ]
  by_cases e : m = k
  ·rw [e, if_pos hz]
  ·rw [if_neg (by rw [hg m (Nat.le_refl _) (by omega)]; simp), badJ_first d (m + 1) k (by omega) (by omega) (fun j h3 h4 => hg j (by omega) h4) hz]
set_option maxRecDepth 100000 in
set_option maxHeartbeats 4000000 in
theorem rjcheck_at (x : TV) (T : Tb) (p : Option Addr) (cap : Nat) (zs : List Int) (K E : Int) (w : World) (hx : TabV w x T) (hcap : CapOf x) (hin : IntsIn w p zs) (hl : zs.length ≤ 17592186043904) (hR : Hid (chkJ T zs = (K, E))) :
 Calls Tryz.prog 45 #[x.agg, .slice p zs.length cap] w (Gives (.tuple #[.int .i64 K, .int .i64 E]) w) := by
 obtain ⟨A, hA⟩ : ∃ A, Hid (accE T zs = A) := ⟨_, rfl⟩
 have HE := Lib.hid (Env.new hx)
 have HI := Lib.hid hin
 have hac := fun W (h1 : TabV W x T) h2 => racce_at x T p cap zs A W h1 hcap h2 hl hA
 have hpc := fun (k : Nat) R W (h1 : TabV W x T) h2 hR => rjperm_at x T p cap zs k R W h1 hcap h2 hl hR
 obtain ⟨n, hn⟩ : ∃ n, zs.length = n := ⟨_, rfl⟩
 rw [hn] at hl hac hpc ⊢
 have HN := Lib.hid hn
 have HAC := Lib.hid hac
 have HPC := Lib.hid hpc
 clear hx hin hn hcap hac hpc
 simp only [TV.agg]
 go_enter Tryz.func45, Tryz.ntmps45
 obtain ⟨⟨k0, k1, k2, k3, k4, k5⟩, ⟨k6, k7, k8, k9, k10, k11⟩⟩ := HE.out.box.load
 go_wp2_with fail
 refine (HAC.out _ HE.out.tab (HI.out.below HE.out.bel)).mono ?_
 rintro e w1 ⟨rfl, hb1⟩
 replace HE := Lib.hid (HE.out.step hb1)
 clear hb1 k0 k1 k2 k3 k4 k5 k6 k7 k8 k9 k10 k11
 by_cases h0 : A = 0
 ·subst h0
  go_wp2
  go_loopw [16] (fun i wr => ∃ k : Nat, k ≤ n ∧ i = .int .i64 k ∧ Hid (∀ j, j < k → permB T zs j = true) ∧ Hid (Env w x T wr)) (fun i _ => n - (intOf i).toNat)
  case atStart => exact ⟨0, Nat.zero_le _, rfl, fun j hj => by omega, HE⟩
  case round =>
   obtain ⟨k, hk, rfl, hgd, he⟩ := hrel
   by_cases hlt : k < n
   ·have hkl : k < zs.length := by rw [HN.out]; exact hlt
    obtain ⟨B, hB⟩ : ∃ B, Hid (perR T zs k = B) := ⟨_, rfl⟩
    have hB2 := hB.out
    rw [perR_ok hkl hA.out] at hB2
    obtain ⟨⟨k0, k1, k2, k3, k4, k5⟩, ⟨k6, k7, k8, k9, k10, k11⟩⟩ := he.out.box.load
    go_wp2_with fail
    refine (HPC.out k B _ he.out.tab (HI.out.below he.out.bel) hB).mono ?_
    rintro e w2 ⟨rfl, hb⟩
    replace he := Lib.hid (he.out.step hb)
    clear hb k0 k1 k2 k3 k4 k5 k6 k7 k8 k9 k10 k11
    cases B with
    | true =>
     have HGD2 : Hid (∀ j, j < k + 1 → permB T zs j = true) := fun j hj => by
      by_cases e : j = k
      ·rw [e]; exact hB2
      ·exact hgd.out j (by omega)
     clear hB2
     go_wp2
     go_roundw
     case rel => exact ⟨k + 1, by omega, by go_num, HGD2, he⟩
     case measure => simp [intOf]; omega
    | false =>
     have hbd : badJ T zs zs.length 0 = some k := badJ_first zs.length 0 k (by omega) (by omega) (fun j _ h => hgd.out j h) hB2
     have hR2 := hR.out
     unfold chkJ at hR2
     rw [if_neg (by rw [hA.out]; simp), hbd] at hR2
     injection hR2 with e1 e2
     subst e1
     subst e2
     clear hB2 hbd
     go_wp2
     go_ret2
     exact ⟨rfl, he.out.bel⟩
   ·obtain rfl : k = n := by omega
    have hbd : badJ T zs zs.length 0 = none := (badJ_none T zs _ 0).2 fun j _ h => hgd.out j (by rw [HN.out] at h; omega)
    have hR2 := hR.out
    unfold chkJ at hR2
    rw [if_neg (by rw [hA.out]; simp), hbd] at hR2
    injection hR2 with e1 e2
    subst e1
    subst e2
    clear hbd
    go_wp2
    go_ret2
    exact ⟨rfl, he.out.bel⟩
 ·have d0 : (A != 0) = true := by simp [h0]
  have hR2 := hR.out
  unfold chkJ at hR2
  rw [if_pos (by rw [hA.out]; exact h0), hA.out] at hR2
  injection hR2 with e1 e2
  subst e1
  subst e2
  clear h0
  go_wp2
  go_ret2
  exact ⟨rfl, HE.out.bel⟩
end Go.Proofs.YtopaojjodkoidaaGreatDoor
