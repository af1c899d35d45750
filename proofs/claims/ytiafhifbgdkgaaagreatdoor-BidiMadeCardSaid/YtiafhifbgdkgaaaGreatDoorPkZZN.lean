/-
  bidi: contracts of the references any, last, RTL, Rule (genBD.py).
  bidi: contract of the reference Domain (genBD.py).
  The laws of bidi: agrees (genBL.py).
-/
import Derived.Test.YtiafhifbgdkgaaaGreatDoorPkZZM
import Derived.Test.YtiafhifbgdkgaaaGreatDoorPkZZG
import Derived.Test.YtiafhifbgdkgaaaGreatDoorQTblS
import Derived.Test.YtiafhifbgdkgaaaGreatDoorPkF
import Derived.Test.YtiafhifbgdkgaaaGreatDoorPkZ
import Derived.BigRegion
import Derived.Test.YtiafhifbgdkgaaaGreatDoorQLs
import Derived.Deep.RegionHeld3
set_option linter.unusedSimpArgs false
set_option linter.unusedVariables false
namespace Go.Proofs.YtiafhifbgdkgaaaGreatDoor
open Go.RowKit
set_option linter.unusedVariables false

theorem r2_bid {T : Tb} (h : r2 T = true) : spOk T.bid = true := by
  simp only [r2, spansT, List.all_cons, List.all_nil, Bool.and_eq_true] at h; exact h.1.2.2.2.1
theorem cont_step (ks : List Int) (j : Nat) (z : Int) (h : j < ks.length) : (ks.take (j + 1)).contains z = ((ks.take j).contains z || (z == ks.getD j 0)) := by
  rw [List.take_succ_eq_append_getElem h, Bool.eq_iff_iff]
  simp [h, -List.take_append_getElem]
theorem cont_yes {ks : List Int} {j : Nat} {z : Int} (h : j < ks.length) (e : z = ks.getD j 0) : ks.contains z = true := by
  rw [e]; simp [h]
theorem anyb_step (q : Int → Bool) (l : List Int) (k : Nat) (h : k < l.length) : (l.take (k + 1)).any q = ((l.take k).any q || q (l.getD k 0)) := by
  rw [List.take_succ_eq_append_getElem h, List.any_append]; simp [h]
theorem anyb_yes {q : Int → Bool} {l : List Int} {k : Nat} (h : k < l.length) (hq : q (l.getD k 0) = true) : l.any q = true := List.any_eq_true.2 ⟨l.getD k 0, by simp [h], hq⟩
theorem lastB_snoc (T : Tb) (k0 : Int) (l : List Int) (k : Nat) (h : k < l.length) : lastB T k0 (l.take (k + 1)) = if bidT T (l.getD k 0) = 10 then lastB T k0 (l.take k) else bidT T (l.getD k 0) := by
  rw [List.take_succ_eq_append_getElem h, lastB_append]; simp [lastB, h]

set_option maxRecDepth 100000 in
set_option maxHeartbeats 4000000 in
theorem rany_at (x : TV) (T : Tb) (p : Option Addr) (n cap : Nat) (zs : List Int) (q : Option Addr) (m c0 : Nat) (ks : List Int) (B : Bool) (w : World) (hx : TabV w x T) (hs : spOk T.bid = true) (hin : IntsIn w p zs) (HN : Hid (zs.length = n)) (hl : n ≤ 17592186043904) (hik : IntsIn w q ks) (HM : Hid (ks.length = m)) (hm : m ≤ 100) (hB : Hid (hasB T zs ks = B)) :
    Calls Tryz.prog 32 #[x.agg, .slice p n cap, .slice q m c0] w (Gives (.bool B) w) := by
  have HE := Lib.hid (Env.new hx)
  have HI := Lib.hid hin
  have HK := Lib.hid hik
  have HS := Lib.hid hs
  obtain ⟨Q, hQ⟩ : ∃ Q : Int → Bool, (fun c => ks.contains (bidT T c)) = Q := ⟨_, rfl⟩
  have HQ : Hid (∀ c, Q c = ks.contains (bidT T c)) := fun c => by rw [← hQ]
  have HB : Hid (zs.any Q = B) := by unfold Hid; rw [← hB.out, ← hQ]; rfl
  clear hx hin hik hs hQ hB
  simp only [TV.agg]
  go_enter Tryz.func32, Tryz.ntmps32
  go_wp2
  go_loopw [13] (fun i wr => ∃ k : Nat, k ≤ n ∧ i = .int .i64 k ∧ Hid ((zs.take k).any Q = false) ∧ Hid (Env w x T wr)) (fun i _ => n - (intOf i).toNat)
  case atStart => exact ⟨0, Nat.zero_le _, rfl, rfl, HE⟩
  case round =>
    obtain ⟨k, hk, rfl, ha, he⟩ := hrel
    by_cases hlt : k < n
    · have hkl : k < zs.length := by rw [HN.out]; exact hlt
      obtain ⟨b, off, rfl, hck⟩ := (HI.out.below he.out.bel) k hkl
      obtain ⟨c, hc⟩ : ∃ c, zs.getD k 0 = c := ⟨_, rfl⟩
      rw [hc] at hck
      obtain ⟨z, hz⟩ : ∃ z, Hid (bidT T c = z) := ⟨_, rfl⟩
      have HST : Hid (ks.contains z = false → (zs.take (k + 1)).any Q = false) := fun h => by rw [anyb_step Q zs k hkl, ha.out, hc, HQ.out c, hz.out, h]; rfl
      have HYS : Hid (ks.contains z = true → B = true) := fun h => by rw [← HB.out]; exact anyb_yes hkl (by rw [hc, HQ.out c, hz.out]; exact h)
      clear hc hkl ha
      go_wp2
      go_loopw [19] (fun i wv => ∃ j : Nat, j ≤ m ∧ i = .int .i64 j ∧ Hid ((ks.take j).contains z = false) ∧ Hid (Env w x T wv)) (fun i _ => m - (intOf i).toNat)
      case atStart => exact ⟨0, Nat.zero_le _, rfl, by simp [Hid], he⟩
      case round =>
        obtain ⟨j, hj, rfl, hcj, hf⟩ := hrel
        by_cases hjm : j < m
        · have hjl : j < ks.length := by rw [HM.out]; exact hjm
          obtain ⟨b2, off2, rfl, hck2⟩ := (HK.out.below hf.out.bel) j hjl
          obtain ⟨d, hd⟩ : ∃ c, ks.getD j 0 = c := ⟨_, rfl⟩
          rw [hd] at hck2
          have HCS := Lib.hid (cont_step ks j z hjl)
          have HCY : Hid (z = d → ks.contains z = true) := fun h => cont_yes hjl (by rw [hd]; exact h)
          rw [hd, hcj.out, Bool.false_or] at HCS
          clear hd hjl hcj
          obtain ⟨⟨k0, k1, k2, k3, k4, k5⟩, ⟨k6, k7, k8, k9, k10, k11⟩⟩ := hf.out.box.load
          go_wp2_with fail
          refine (rbid_at x T c z _ hf.out.tab HS.out hz).mono ?_
          rintro e w2 ⟨rfl, hb2⟩
          replace hf := Lib.hid (hf.out.step hb2)
          clear hb2 hck2
          clear k0 k1 k2 k3 k4 k5 k6 k7 k8 k9 k10 k11
          by_cases hzd : z = d
          · have g1 : (z == d) = true := by simp [hzd]
            obtain rfl : B = true := HYS.out (HCY.out hzd)
            clear hzd
            go_wp2
            go_ret
            exact ⟨rfl, hf.out.bel⟩
          · have g1 : (z == d) = false := by simp [hzd]
            have HC2 : Hid ((ks.take (j + 1)).contains z = false) := by unfold Hid; rw [HCS.out, g1]
            clear hzd HCY HCS
            go_wp2
            go_roundw
            case rel => exact ⟨j + 1, by omega, by go_num, HC2, hf⟩
            case measure => first | (simp [intOf]; done) | (simp [intOf]; omega)
        · have hcf : ks.contains z = false := by have h := hcj.out; rwa [List.take_of_length_le (by rw [HM.out]; omega)] at h
          have HST2 := Lib.hid (HST.out hcf)
          clear hcf hcj
          go_wp2
          go_roundw
          case rel => exact ⟨k + 1, by omega, by go_num, HST2, hf⟩
          case measure => first | (simp [intOf]; done) | (simp [intOf]; omega)
    · obtain rfl : k = n := by omega
      obtain rfl : B = false := by rw [← HB.out, ← ha.out, List.take_of_length_le (by rw [HN.out]; exact Nat.le_refl _)]
      go_wp2
      go_ret
      exact ⟨rfl, he.out.bel⟩

set_option maxRecDepth 100000 in
set_option maxHeartbeats 4000000 in
theorem rlast_at (x : TV) (T : Tb) (p : Option Addr) (n cap : Nat) (zs : List Int) (Z : Int) (w : World) (hx : TabV w x T) (hs : spOk T.bid = true) (hin : IntsIn w p zs) (HN : Hid (zs.length = n)) (hl : n ≤ 17592186043904) (hZ : Hid (lastB T (-1) zs = Z)) :
    Calls Tryz.prog 33 #[x.agg, .slice p n cap] w (Gives (.int .i64 Z) w) := by
  have HE := Lib.hid (Env.new hx)
  have HI := Lib.hid hin
  have HS := Lib.hid hs
  clear hx hin hs
  simp only [TV.agg]
  go_enter Tryz.func33, Tryz.ntmps33
  go_wp2
  go_loopw [5, 11] (fun v i wr => ∃ k : Nat, k ≤ n ∧ i = .int .i64 k ∧ v = .int .i64 (lastB T (-1) (zs.take k)) ∧ Hid (Env w x T wr)) (fun _ i _ => n - (intOf i).toNat)
  case atStart => exact ⟨0, Nat.zero_le _, rfl, rfl, HE⟩
  case round =>
    obtain ⟨k, hk, rfl, rfl, he⟩ := hrel
    by_cases hlt : k < n
    · have hkl : k < zs.length := by rw [HN.out]; exact hlt
      obtain ⟨b, off, rfl, hck⟩ := (HI.out.below he.out.bel) k hkl
      obtain ⟨c, hc⟩ : ∃ c, zs.getD k 0 = c := ⟨_, rfl⟩
      rw [hc] at hck
      obtain ⟨z, hz⟩ : ∃ z, Hid (bidT T c = z) := ⟨_, rfl⟩
      have HST := Lib.hid (lastB_snoc T (-1) zs k hkl)
      rw [hc, hz.out] at HST
      obtain ⟨y, hy⟩ : ∃ y, lastB T (-1) (zs.take k) = y := ⟨_, rfl⟩
      rw [hy] at HST ⊢
      clear hc hkl hy
      obtain ⟨⟨k0, k1, k2, k3, k4, k5⟩, ⟨k6, k7, k8, k9, k10, k11⟩⟩ := he.out.box.load
      go_wp2_with fail
      refine (rbid_at x T c z _ he.out.tab HS.out hz).mono ?_
      rintro e w2 ⟨rfl, hb2⟩
      replace he := Lib.hid (he.out.step hb2)
      clear hb2 hck
      clear k0 k1 k2 k3 k4 k5 k6 k7 k8 k9 k10 k11
      by_cases h10 : z = 10
      · have g1 : (z != 10) = false := by simp [h10]
        have HS2 : Hid (lastB T (-1) (zs.take (k + 1)) = y) := by unfold Hid; rw [HST.out, if_pos h10]
        clear h10 HST
        go_wp2
        go_roundw
        case rel => exact ⟨k + 1, by omega, by go_num, by rw [HS2.out], he⟩
        case measure => first | (simp [intOf]; done) | (simp [intOf]; omega)
      · have g1 : (z != 10) = true := by simp [h10]
        have HS2 : Hid (lastB T (-1) (zs.take (k + 1)) = z) := by unfold Hid; rw [HST.out, if_neg h10]
        clear h10 HST
        go_wp2
        go_roundw
        case rel => exact ⟨k + 1, by omega, by go_num, by rw [HS2.out], he⟩
        case measure => first | (simp [intOf]; done) | (simp [intOf]; omega)
    · obtain rfl : k = n := by omega
      have h1 : lastB T (-1) (zs.take k) = Z := by rw [List.take_of_length_le (by rw [HN.out]; exact Nat.le_refl _)]; exact hZ.out
      rw [h1]
      clear h1
      go_wp2
      go_ret
      exact ⟨rfl, he.out.bel⟩

set_option maxRecDepth 100000 in
set_option maxHeartbeats 4000000 in
theorem rrtl_at (x : TV) (T : Tb) (p : Option Addr) (cap : Nat) (zs : List Int) (B : Bool) (w : World) (hx : TabV w x T) (hcap : CapOf x) (hin : IntsIn w p zs) (hl : zs.length ≤ 17592186043904) (hB : Hid (rtlR T zs = B)) :
    Calls Tryz.prog 11 #[x.agg, .slice p zs.length cap] w (Gives (.bool B) w) := by
  obtain ⟨A, hA⟩ : ∃ A, Hid (accE T zs = A) := ⟨_, rfl⟩
  have HE := Lib.hid (Env.new hx)
  have HI := Lib.hid hin
  have hac := fun W (h1 : TabV W x T) h2 => racce_at x T p cap zs A W h1 hcap h2 hl hA
  obtain ⟨n, hn⟩ : ∃ n, zs.length = n := ⟨_, rfl⟩
  rw [hn] at hl hac ⊢
  have HN := Lib.hid hn
  have HAC := Lib.hid hac
  clear hx hin hn hcap hac
  simp only [TV.agg]
  go_enter Tryz.func11, Tryz.ntmps11
  obtain ⟨⟨k0, k1, k2, k3, k4, k5⟩, ⟨k6, k7, k8, k9, k10, k11⟩⟩ := HE.out.box.load
  go_wp2_with fail
  refine (HAC.out _ HE.out.tab (HI.out.below HE.out.bel)).mono ?_
  rintro e w1 ⟨rfl, hb1⟩
  replace HE := Lib.hid (HE.out.step hb1)
  clear hb1
  clear k0 k1 k2 k3 k4 k5 k6 k7 k8 k9 k10 k11
  by_cases h0 : A = 0
  · subst h0
    have HSB : Hid (spOk T.bid = true) := r2_bid (check_rules (accE_ok hA.out).1).2.1
    have HBB : Hid (hasB T zs [1, 2, 3] = B) := by unfold Hid; rw [← hB.out]; unfold rtlR; rw [decide_eq_true hA.out, Bool.true_and]; rfl
    clear hB
    have HLT := Lib.hid (lit_ints w1 #[.int .i64 1, .int .i64 2, .int .i64 3] [1, 2, 3] 3 rfl)
    have HEA := Lib.hid (HE.out.step ((Below.refl w1.heap.size w1).alloc (Nat.le_refl _) (.cells #[.int .i64 1, .int .i64 2, .int .i64 3] 3)))
    obtain ⟨⟨k0, k1, k2, k3, k4, k5⟩, ⟨k6, k7, k8, k9, k10, k11⟩⟩ := HE.out.box.load
    go_wp2_with fail
    refine (rany_at x T _ n cap zs _ 3 3 [1, 2, 3] B _ HEA.out.tab HSB.out (HI.out.below HEA.out.bel) HN hl HLT.out rfl (by omega) HBB).mono ?_
    rintro e wn ⟨rfl, hb⟩
    replace HE := Lib.hid (HEA.out.step hb)
    clear hb HLT HEA
    clear k0 k1 k2 k3 k4 k5 k6 k7 k8 k9 k10 k11
    go_wp2
    go_ret
    exact ⟨rfl, HE.out.bel⟩
  · have d0 : (A == 0) = false := by simp [h0]
    obtain rfl : B = false := by rw [← hB.out]; unfold rtlR; rw [decide_eq_false (fun h => h0 (hA.out.symm.trans h))]; rfl
    clear h0 hB
    go_wp2
    go_ret
    exact ⟨rfl, HE.out.bel⟩

set_option maxRecDepth 100000 in
set_option maxHeartbeats 4000000 in
theorem rrule_at (x : TV) (T : Tb) (p : Option Addr) (cap : Nat) (zs : List Int) (K E : Int) (w : World) (hx : TabV w x T) (hcap : CapOf x) (hin : IntsIn w p zs) (hl : zs.length ≤ 17592186043904) (hR : Hid (rulR T zs = (K, E))) :
    Calls Tryz.prog 12 #[x.agg, .slice p zs.length cap] w (Gives (.tuple #[.int .i64 K, .int .i64 E]) w) := by
  obtain ⟨A, hA⟩ : ∃ A, Hid (accE T zs = A) := ⟨_, rfl⟩
  have HE := Lib.hid (Env.new hx)
  have HI := Lib.hid hin
  have hac := fun W (h1 : TabV W x T) h2 => racce_at x T p cap zs A W h1 hcap h2 hl hA
  obtain ⟨n, hn⟩ : ∃ n, zs.length = n := ⟨_, rfl⟩
  rw [hn] at hl hac ⊢
  have HN := Lib.hid hn
  have HAC := Lib.hid hac
  clear hx hin hn hcap hac
  simp only [TV.agg]
  go_enter Tryz.func12, Tryz.ntmps12
  obtain ⟨⟨k0, k1, k2, k3, k4, k5⟩, ⟨k6, k7, k8, k9, k10, k11⟩⟩ := HE.out.box.load
  go_wp2_with fail
  refine (HAC.out _ HE.out.tab (HI.out.below HE.out.bel)).mono ?_
  rintro e w1 ⟨rfl, hb1⟩
  replace HE := Lib.hid (HE.out.step hb1)
  clear hb1
  clear k0 k1 k2 k3 k4 k5 k6 k7 k8 k9 k10 k11
  by_cases h0 : A = 0
  · subst h0
    have HSB : Hid (spOk T.bid = true) := r2_bid (check_rules (accE_ok hA.out).1).2.1
    have hR2 := hR.out
    unfold rulR at hR2
    rw [if_neg (by rw [hA.out]; simp)] at hR2
    injection hR2 with e1 e2
    subst e2
    by_cases hn0 : n = 0
    · have hz : zs = [] := List.eq_nil_of_length_eq_zero (by rw [HN.out]; exact hn0)
      have hk : K = 0 := by rw [← e1]; unfold ruleT; rw [if_pos hz]
      subst hk
      subst hn0
      clear e1 hz
      go_wp2
      go_ret2
      exact ⟨rfl, HE.out.bel⟩
    · have dn : ((n : Int) == 0) = false := by simp; omega
      have hne : zs ≠ [] := fun h => hn0 (by rw [← HN.out, h]; rfl)
      obtain ⟨f, hf⟩ : ∃ f, Hid (bidT T (zs.getD 0 0) = f) := ⟨_, rfl⟩
      obtain ⟨z, hz⟩ : ∃ z, Hid (lastB T (-1) zs = z) := ⟨_, rfl⟩
      have HRU : Hid (ruleB T zs f z = K) := by unfold Hid; rw [← e1, ← hf.out, ← hz.out]; unfold ruleT; rw [if_neg hne]
      have hkl : 0 < zs.length := by rw [HN.out]; omega
      clear e1 hne hR
      obtain ⟨⟨k0, k1, k2, k3, k4, k5⟩, ⟨k6, k7, k8, k9, k10, k11⟩⟩ := HE.out.box.load
      go_wp2_with fail
      refine (rlast_at x T _ n cap zs z _ HE.out.tab HSB.out (HI.out.below HE.out.bel) HN hl hz).mono ?_
      rintro e w2 ⟨rfl, hb⟩
      replace HE := Lib.hid (HE.out.step hb)
      clear hb
      clear k0 k1 k2 k3 k4 k5 k6 k7 k8 k9 k10 k11
      go_upto_region 5 with (fail)
      obtain ⟨b, off, rfl, hck⟩ := (HI.out.below HE.out.bel) 0 hkl
      obtain ⟨c, hc⟩ : ∃ c, zs.getD 0 0 = c := ⟨_, rfl⟩
      rw [hc, Nat.add_zero] at hck
      rw [hc] at hf
      have i1 : (0 : Int) < (n : Int) := by omega
      have i2 : 0 < n := by omega
      have K20 := fun p => layB_cell hck p
      have cc := fun p => layB_call (p := p) fun W2 hW2 => rbid_at x T c f W2 (HE.out.tab.below hW2) HSB.out hf
      simp only [TV.agg] at cc
      have CC := Lib.hid cc
      clear cc hc hck hkl
      obtain ⟨⟨k0, k1, k2, k3, k4, k5⟩, ⟨k6, k7, k8, k9, k10, k11⟩⟩ := HE.out.box.load
      have K0 := fun p => layB_cell k0 p
      have K1 := fun p => layB_cell k1 p
      have K2 := fun p => layB_cell k2 p
      have K3 := fun p => layB_cell k3 p
      have K4 := fun p => layB_cell k4 p
      have K5 := fun p => layB_cell k5 p
      have K6 := fun p => layB_cell k6 p
      have K7 := fun p => layB_cell k7 p
      have K8 := fun p => layB_cell k8 p
      have K9 := fun p => layB_cell k9 p
      have K10 := fun p => layB_cell k10 p
      have K11 := fun p => layB_cell k11 p
      clear k0 k1 k2 k3 k4 k5 k6 k7 k8 k9 k10 k11
      refine wp_region_layB (by kernel_rfl) (by kernel_rfl) ?_
      repeat (go_big_quiet_step ((go_at_call 34; with_reducible exact CC.out _)))
      refine wpQuiet_nil ?_
      intro _ hw'
      obtain ⟨pq, hw''⟩ := hw'
      subst hw''
      replace HE := Lib.hid (HE.out.step (layB_below w2 pq))
      generalize layB w2 pq = W2 at HE ⊢
      clear K0 K1 K2 K3 K4 K5 K6 K7 K8 K9 K10 K11 K20 CC
      by_cases f1 : f = 1
      · subst f1
        replace HRU := HRU.out
        unfold ruleB at HRU
        rw [if_pos (by decide)] at HRU
        replace HRU := Lib.hid HRU
        obtain ⟨H1, hH1⟩ : ∃ B, Hid (hasB T zs [0, 11] = B) := ⟨_, rfl⟩
        have HLT := Lib.hid (lit_ints W2 #[.int .i64 0, .int .i64 11] [0, 11] 3 rfl)
        have HEA := Lib.hid (HE.out.step ((Below.refl W2.heap.size W2).alloc (Nat.le_refl _) (.cells #[.int .i64 0, .int .i64 11] 3)))
        obtain ⟨⟨k0, k1, k2, k3, k4, k5⟩, ⟨k6, k7, k8, k9, k10, k11⟩⟩ := HE.out.box.load
        go_wp2_with fail
        refine (rany_at x T _ n cap zs _ 2 2 [0, 11] H1 _ HEA.out.tab HSB.out (HI.out.below HEA.out.bel) HN hl HLT.out rfl (by omega) hH1).mono ?_
        rintro e wn ⟨rfl, hb⟩
        replace HE := Lib.hid (HEA.out.step hb)
        clear hb HLT HEA
        clear k0 k1 k2 k3 k4 k5 k6 k7 k8 k9 k10 k11
        cases H1 with
        | true =>
          obtain rfl : K = 2 := by rw [← HRU.out, if_pos hH1.out]
          go_wp2
          go_ret2
          exact ⟨rfl, HE.out.bel⟩
        | false =>
          replace HRU := HRU.out
          rw [if_neg (by rw [hH1.out]; simp)] at HRU
          replace HRU := Lib.hid HRU
          obtain ⟨V, hV⟩ : ∃ V : Bool, decide (z ≠ 1 ∧ z ≠ 2 ∧ z ≠ 4 ∧ z ≠ 3) = V := ⟨_, rfl⟩
          have HV := Lib.hid hV
          clear hV
          go_upto_region 10 with (fail)
          go_cut [35] (fun v wx => v = .bool V ∧ wx = wn)
          case first =>
            by_cases h1 : z = 1
            · subst h1
              obtain rfl : V = false := by rw [← HV.out]; decide
              go_wp2_with fail
              go_meet
              exact ⟨rfl, rfl⟩
            · have g1 : (z != 1) = true := by simp [h1]
              by_cases h2 : z = 2
              · subst h2
                obtain rfl : V = false := by rw [← HV.out]; decide
                go_wp2_with fail
                go_meet
                exact ⟨rfl, rfl⟩
              · have g2 : (z != 2) = true := by simp [h2]
                by_cases h4 : z = 4
                · subst h4
                  obtain rfl : V = false := by rw [← HV.out]; decide
                  go_wp2_with fail
                  go_meet
                  exact ⟨rfl, rfl⟩
                · have g4 : (z != 4) = true := by simp [h4]
                  by_cases h3 : z = 3
                  · subst h3
                    obtain rfl : V = false := by rw [← HV.out]; decide
                    go_wp2_with fail
                    go_meet
                    exact ⟨rfl, rfl⟩
                  · have g3 : (z != 3) = true := by simp [h3]
                    obtain rfl : V = true := by rw [← HV.out]; exact decide_eq_true ⟨h1, h2, h4, h3⟩
                    clear h1 h2 h4 h3
                    go_wp2_with fail
                    go_meet
                    exact ⟨rfl, rfl⟩
          case rest =>
            obtain ⟨rfl, rfl⟩ := hcut
            cases V with
            | true =>
              obtain rfl : K = 3 := by rw [← HRU.out, if_pos (of_decide_eq_true HV.out)]
              go_wp2
              go_ret2
              exact ⟨rfl, HE.out.bel⟩
            | false =>
              replace HRU := HRU.out
              rw [if_neg (of_decide_eq_false HV.out)] at HRU
              replace HRU := Lib.hid HRU
              obtain ⟨H4, hH4⟩ : ∃ B, Hid (hasB T zs [4] = B) := ⟨_, rfl⟩
              have HLT := Lib.hid (lit_ints wc #[.int .i64 4] [4] 3 rfl)
              have HEA := Lib.hid (HE.out.step ((Below.refl wc.heap.size wc).alloc (Nat.le_refl _) (.cells #[.int .i64 4] 3)))
              obtain ⟨⟨k0, k1, k2, k3, k4, k5⟩, ⟨k6, k7, k8, k9, k10, k11⟩⟩ := HE.out.box.load
              go_wp2_with fail
              refine (rany_at x T _ n cap zs _ 1 1 [4] H4 _ HEA.out.tab HSB.out (HI.out.below HEA.out.bel) HN hl HLT.out rfl (by omega) hH4).mono ?_
              rintro e wn ⟨rfl, hb⟩
              replace HE := Lib.hid (HEA.out.step hb)
              clear hb HLT HEA
              clear k0 k1 k2 k3 k4 k5 k6 k7 k8 k9 k10 k11
              cases H4 with
              | false =>
                obtain rfl : K = 0 := by rw [← HRU.out, if_neg (fun h => by rw [hH4.out] at h; cases h.1)]
                go_wp2
                go_ret2
                exact ⟨rfl, HE.out.bel⟩
              | true =>
                obtain ⟨H3, hH3⟩ : ∃ B, Hid (hasB T zs [3] = B) := ⟨_, rfl⟩
                have HLT := Lib.hid (lit_ints wn #[.int .i64 3] [3] 3 rfl)
                have HEA := Lib.hid (HE.out.step ((Below.refl wn.heap.size wn).alloc (Nat.le_refl _) (.cells #[.int .i64 3] 3)))
                obtain ⟨⟨k0, k1, k2, k3, k4, k5⟩, ⟨k6, k7, k8, k9, k10, k11⟩⟩ := HE.out.box.load
                go_wp2_with fail
                refine (rany_at x T _ n cap zs _ 1 1 [3] H3 _ HEA.out.tab HSB.out (HI.out.below HEA.out.bel) HN hl HLT.out rfl (by omega) hH3).mono ?_
                rintro e wn ⟨rfl, hb⟩
                replace HE := Lib.hid (HEA.out.step hb)
                clear hb HLT HEA
                clear k0 k1 k2 k3 k4 k5 k6 k7 k8 k9 k10 k11
                cases H3 with
                | true =>
                  obtain rfl : K = 4 := by rw [← HRU.out, if_pos ⟨hH4.out, hH3.out⟩]
                  go_wp2
                  go_ret2
                  exact ⟨rfl, HE.out.bel⟩
                | false =>
                  obtain rfl : K = 0 := by rw [← HRU.out, if_neg (fun h => by rw [hH3.out] at h; cases h.2)]
                  go_wp2
                  go_ret2
                  exact ⟨rfl, HE.out.bel⟩
      · have g1f : (f == 1) = false := by simp [f1]
        by_cases f2 : f = 2
        · subst f2
          replace HRU := HRU.out
          unfold ruleB at HRU
          rw [if_pos (by decide)] at HRU
          replace HRU := Lib.hid HRU
          obtain ⟨H1, hH1⟩ : ∃ B, Hid (hasB T zs [0, 11] = B) := ⟨_, rfl⟩
          have HLT := Lib.hid (lit_ints W2 #[.int .i64 0, .int .i64 11] [0, 11] 3 rfl)
          have HEA := Lib.hid (HE.out.step ((Below.refl W2.heap.size W2).alloc (Nat.le_refl _) (.cells #[.int .i64 0, .int .i64 11] 3)))
          obtain ⟨⟨k0, k1, k2, k3, k4, k5⟩, ⟨k6, k7, k8, k9, k10, k11⟩⟩ := HE.out.box.load
          go_wp2_with fail
          refine (rany_at x T _ n cap zs _ 2 2 [0, 11] H1 _ HEA.out.tab HSB.out (HI.out.below HEA.out.bel) HN hl HLT.out rfl (by omega) hH1).mono ?_
          rintro e wn ⟨rfl, hb⟩
          replace HE := Lib.hid (HEA.out.step hb)
          clear hb HLT HEA
          clear k0 k1 k2 k3 k4 k5 k6 k7 k8 k9 k10 k11
          cases H1 with
          | true =>
            obtain rfl : K = 2 := by rw [← HRU.out, if_pos hH1.out]
            go_wp2
            go_ret2
            exact ⟨rfl, HE.out.bel⟩
          | false =>
            replace HRU := HRU.out
            rw [if_neg (by rw [hH1.out]; simp)] at HRU
            replace HRU := Lib.hid HRU
            obtain ⟨V, hV⟩ : ∃ V : Bool, decide (z ≠ 1 ∧ z ≠ 2 ∧ z ≠ 4 ∧ z ≠ 3) = V := ⟨_, rfl⟩
            have HV := Lib.hid hV
            clear hV
            go_upto_region 10 with (fail)
            go_cut [35] (fun v wx => v = .bool V ∧ wx = wn)
            case first =>
              by_cases h1 : z = 1
              · subst h1
                obtain rfl : V = false := by rw [← HV.out]; decide
                go_wp2_with fail
                go_meet
                exact ⟨rfl, rfl⟩
              · have g1 : (z != 1) = true := by simp [h1]
                by_cases h2 : z = 2
                · subst h2
                  obtain rfl : V = false := by rw [← HV.out]; decide
                  go_wp2_with fail
                  go_meet
                  exact ⟨rfl, rfl⟩
                · have g2 : (z != 2) = true := by simp [h2]
                  by_cases h4 : z = 4
                  · subst h4
                    obtain rfl : V = false := by rw [← HV.out]; decide
                    go_wp2_with fail
                    go_meet
                    exact ⟨rfl, rfl⟩
                  · have g4 : (z != 4) = true := by simp [h4]
                    by_cases h3 : z = 3
                    · subst h3
                      obtain rfl : V = false := by rw [← HV.out]; decide
                      go_wp2_with fail
                      go_meet
                      exact ⟨rfl, rfl⟩
                    · have g3 : (z != 3) = true := by simp [h3]
                      obtain rfl : V = true := by rw [← HV.out]; exact decide_eq_true ⟨h1, h2, h4, h3⟩
                      clear h1 h2 h4 h3
                      go_wp2_with fail
                      go_meet
                      exact ⟨rfl, rfl⟩
            case rest =>
              obtain ⟨rfl, rfl⟩ := hcut
              cases V with
              | true =>
                obtain rfl : K = 3 := by rw [← HRU.out, if_pos (of_decide_eq_true HV.out)]
                go_wp2
                go_ret2
                exact ⟨rfl, HE.out.bel⟩
              | false =>
                replace HRU := HRU.out
                rw [if_neg (of_decide_eq_false HV.out)] at HRU
                replace HRU := Lib.hid HRU
                obtain ⟨H4, hH4⟩ : ∃ B, Hid (hasB T zs [4] = B) := ⟨_, rfl⟩
                have HLT := Lib.hid (lit_ints wc #[.int .i64 4] [4] 3 rfl)
                have HEA := Lib.hid (HE.out.step ((Below.refl wc.heap.size wc).alloc (Nat.le_refl _) (.cells #[.int .i64 4] 3)))
                obtain ⟨⟨k0, k1, k2, k3, k4, k5⟩, ⟨k6, k7, k8, k9, k10, k11⟩⟩ := HE.out.box.load
                go_wp2_with fail
                refine (rany_at x T _ n cap zs _ 1 1 [4] H4 _ HEA.out.tab HSB.out (HI.out.below HEA.out.bel) HN hl HLT.out rfl (by omega) hH4).mono ?_
                rintro e wn ⟨rfl, hb⟩
                replace HE := Lib.hid (HEA.out.step hb)
                clear hb HLT HEA
                clear k0 k1 k2 k3 k4 k5 k6 k7 k8 k9 k10 k11
                cases H4 with
                | false =>
                  obtain rfl : K = 0 := by rw [← HRU.out, if_neg (fun h => by rw [hH4.out] at h; cases h.1)]
                  go_wp2
                  go_ret2
                  exact ⟨rfl, HE.out.bel⟩
                | true =>
                  obtain ⟨H3, hH3⟩ : ∃ B, Hid (hasB T zs [3] = B) := ⟨_, rfl⟩
                  have HLT := Lib.hid (lit_ints wn #[.int .i64 3] [3] 3 rfl)
                  have HEA := Lib.hid (HE.out.step ((Below.refl wn.heap.size wn).alloc (Nat.le_refl _) (.cells #[.int .i64 3] 3)))
                  obtain ⟨⟨k0, k1, k2, k3, k4, k5⟩, ⟨k6, k7, k8, k9, k10, k11⟩⟩ := HE.out.box.load
                  go_wp2_with fail
                  refine (rany_at x T _ n cap zs _ 1 1 [3] H3 _ HEA.out.tab HSB.out (HI.out.below HEA.out.bel) HN hl HLT.out rfl (by omega) hH3).mono ?_
                  rintro e wn ⟨rfl, hb⟩
                  replace HE := Lib.hid (HEA.out.step hb)
                  clear hb HLT HEA
                  clear k0 k1 k2 k3 k4 k5 k6 k7 k8 k9 k10 k11
                  cases H3 with
                  | true =>
                    obtain rfl : K = 4 := by rw [← HRU.out, if_pos ⟨hH4.out, hH3.out⟩]
                    go_wp2
                    go_ret2
                    exact ⟨rfl, HE.out.bel⟩
                  | false =>
                    obtain rfl : K = 0 := by rw [← HRU.out, if_neg (fun h => by rw [hH3.out] at h; cases h.2)]
                    go_wp2
                    go_ret2
                    exact ⟨rfl, HE.out.bel⟩
        · have g2f : (f == 2) = false := by simp [f2]
          by_cases f0 : f = 0
          · subst f0
            replace HRU := HRU.out
            unfold ruleB at HRU
            rw [if_neg (by decide), if_pos rfl] at HRU
            replace HRU := Lib.hid HRU
            obtain ⟨H1, hH1⟩ : ∃ B, Hid (hasB T zs [1, 2, 3, 11] = B) := ⟨_, rfl⟩
            have HLT := Lib.hid (lit_ints W2 #[.int .i64 1, .int .i64 2, .int .i64 3, .int .i64 11] [1, 2, 3, 11] 3 rfl)
            have HEA := Lib.hid (HE.out.step ((Below.refl W2.heap.size W2).alloc (Nat.le_refl _) (.cells #[.int .i64 1, .int .i64 2, .int .i64 3, .int .i64 11] 3)))
            obtain ⟨⟨k0, k1, k2, k3, k4, k5⟩, ⟨k6, k7, k8, k9, k10, k11⟩⟩ := HE.out.box.load
            go_wp2_with fail
            refine (rany_at x T _ n cap zs _ 4 4 [1, 2, 3, 11] H1 _ HEA.out.tab HSB.out (HI.out.below HEA.out.bel) HN hl HLT.out rfl (by omega) hH1).mono ?_
            rintro e wn ⟨rfl, hb⟩
            replace HE := Lib.hid (HEA.out.step hb)
            clear hb HLT HEA
            clear k0 k1 k2 k3 k4 k5 k6 k7 k8 k9 k10 k11
            cases H1 with
            | true =>
              obtain rfl : K = 5 := by rw [← HRU.out, if_pos hH1.out]
              go_wp2
              go_ret2
              exact ⟨rfl, HE.out.bel⟩
            | false =>
              replace HRU := HRU.out
              rw [if_neg (by rw [hH1.out]; simp)] at HRU
              replace HRU := Lib.hid HRU
              by_cases z0 : z = 0
              · subst z0
                obtain rfl : K = 0 := by rw [← HRU.out, if_neg (fun h => h.1 rfl)]
                go_wp2
                go_ret2
                exact ⟨rfl, HE.out.bel⟩
              · have g0 : (z != 0) = true := by simp [z0]
                by_cases z4 : z = 4
                · subst z4
                  obtain rfl : K = 0 := by rw [← HRU.out, if_neg (fun h => h.2 rfl)]
                  go_wp2
                  go_ret2
                  exact ⟨rfl, HE.out.bel⟩
                · have g4 : (z != 4) = true := by simp [z4]
                  obtain rfl : K = 6 := by rw [← HRU.out, if_pos ⟨z0, z4⟩]
                  clear z0 z4
                  go_wp2
                  go_ret2
                  exact ⟨rfl, HE.out.bel⟩
          · have g0f : (f == 0) = false := by simp [f0]
            obtain rfl : K = 1 := by rw [← HRU.out]; unfold ruleB; rw [if_neg (fun h => h.elim f1 f2), if_neg f0]
            clear f0 f1 f2 HRU
            go_wp2
            go_ret2
            exact ⟨rfl, HE.out.bel⟩
  · have d0 : (A != 0) = true := by simp [h0]
    have hR2 := hR.out
    unfold rulR at hR2
    rw [if_pos (by rw [hA.out]; exact h0), hA.out] at hR2
    injection hR2 with e1 e2
    subst e1
    subst e2
    clear h0
    go_wp2
    go_ret2
    exact ⟨rfl, HE.out.bel⟩

end Go.Proofs.YtiafhifbgdkgaaaGreatDoor

namespace Go.Proofs.YtiafhifbgdkgaaaGreatDoor
open Go.RowKit
set_option linter.unusedVariables false

theorem anyl_step (q : List Int → Bool) (L : List (List Int)) (k : Nat) (h : k < L.length) : (L.take (k + 1)).any q = ((L.take k).any q || q (L.getD k [])) := by
  rw [List.take_succ_eq_append_getElem h, List.any_append]; simp [h]

set_option maxRecDepth 100000 in
set_option maxHeartbeats 4000000 in
theorem rdom_at (x : TV) (T : Tb) (p : Option Addr) (n cap : Nat) (L : List (List Int)) (K E : Int) (w : World) (hx : TabV w x T) (hcap : CapOf x) (hin : LsIn w p L) (HN : Hid (L.length = n)) (hl : n ≤ 17592186043904) (hll : ∀ l ∈ L, l.length ≤ 17592186043904) (hR : Hid (domR T L = (K, E))) :
    Calls Tryz.prog 24 #[x.agg, .slice p n cap] w (Gives (.tuple #[.int .i64 K, .int .i64 E]) w) := by
  have HE := Lib.hid (Env.new hx)
  have HI := Lib.hid hin
  have HLL := Lib.hid hll
  have HCP := Lib.hid hcap
  clear hx hin hll hcap
  simp only [TV.agg]
  go_enter Tryz.func24, Tryz.ntmps24
  go_wp2
  go_loopw [6, 16] (fun v i wr => ∃ k : Nat, k ≤ n ∧ i = .int .i64 k ∧ v = .bool ((L.take k).any (rtlT T)) ∧ Hid (∀ j, j < k → accE T (L.getD j []) = 0) ∧ Hid (Env w x T wr)) (fun _ i _ => n - (intOf i).toNat)
  case atStart => exact ⟨0, Nat.zero_le _, rfl, rfl, fun j hj => by omega, HE⟩
  case round =>
    obtain ⟨k, hk, rfl, rfl, hgd, he⟩ := hrel
    by_cases hlt : k < n
    · have hkl : k < L.length := by rw [HN.out]; exact hlt
      obtain ⟨b, off, q, c, rfl, hck, _, hi⟩ := (HI.out.below he.out.bel) k hkl
      obtain ⟨l, hll⟩ : ∃ l, L.getD k [] = l := ⟨_, rfl⟩
      have HST := Lib.hid (anyl_step (rtlT T) L k hkl)
      have HML : Hid (l.length ≤ 17592186043904) := by unfold Hid; rw [← hll]; exact HLL.out _ (getD_memL L k hkl)
      rw [hll] at hck hi HST
      have HQ := Lib.hid hi
      obtain ⟨A, hA⟩ : ∃ A, Hid (accE T l = A) := ⟨_, rfl⟩
      have HLK := Lib.hid hll
      obtain ⟨G, hG⟩ : ∃ G, (L.take k).any (rtlT T) = G := ⟨_, rfl⟩
      rw [hG] at HST ⊢
      have hac := fun W (h1 : TabV W x T) h2 => racce_at x T q c l A W h1 HCP.out h2 HML.out hA
      obtain ⟨B, hB⟩ : ∃ B, Hid (rtlR T l = B) := ⟨_, rfl⟩
      have hrt := fun W (h1 : TabV W x T) h2 => rrtl_at x T q c l B W h1 HCP.out h2 HML.out hB
      obtain ⟨m, hm⟩ : ∃ m, l.length = m := ⟨_, rfl⟩
      rw [hm] at hac hrt hck
      have HAC := Lib.hid hac
      have HRT := Lib.hid hrt
      clear hll hG hi hac hrt hm
      obtain ⟨⟨k0, k1, k2, k3, k4, k5⟩, ⟨k6, k7, k8, k9, k10, k11⟩⟩ := he.out.box.load
      go_wp2_with fail
      refine (HAC.out _ he.out.tab HQ.out).mono ?_
      rintro e w1 ⟨rfl, hb⟩
      replace he := Lib.hid (he.out.step hb)
      replace HQ := Lib.hid (HQ.out.below hb)
      clear hb hck
      clear k0 k1 k2 k3 k4 k5 k6 k7 k8 k9 k10 k11
      by_cases h0 : A = 0
      · subst h0
        have hgd2 : Hid (∀ j, j < k + 1 → accE T (L.getD j []) = 0) := fun j hj => by
          by_cases e : j = k
          · rw [e, HLK.out]; exact hA.out
          · exact hgd.out j (by omega)
        have HRB : Hid (rtlT T l = B) := by unfold Hid; rw [← hB.out]; unfold rtlR; rw [decide_eq_true hA.out, Bool.true_and]
        rw [HRB.out] at HST
        clear hkl
        cases G with
        | true =>
          go_wp2
          go_roundw
          case rel => exact ⟨k + 1, by omega, by go_num, by rw [HST.out, Bool.true_or], hgd2, he⟩
          case measure => first | (simp [intOf]; done) | (simp [intOf]; omega)
        | false =>
          obtain ⟨⟨k0, k1, k2, k3, k4, k5⟩, ⟨k6, k7, k8, k9, k10, k11⟩⟩ := he.out.box.load
          go_wp2_with fail
          refine (HRT.out _ he.out.tab HQ.out).mono ?_
          rintro e w2 ⟨rfl, hb⟩
          replace he := Lib.hid (he.out.step hb)
          clear hb
          clear k0 k1 k2 k3 k4 k5 k6 k7 k8 k9 k10 k11
          go_wp2
          go_roundw
          case rel => exact ⟨k + 1, by omega, by go_num, by rw [HST.out, Bool.false_or], hgd2, he⟩
          case measure => first | (simp [intOf]; done) | (simp [intOf]; omega)
      · have d0 : (A != 0) = true := by simp [h0]
        have hR2 := hR.out
        rw [domR_ref hkl hgd.out (by rw [HLK.out, hA.out]; exact h0), HLK.out, hA.out] at hR2
        injection hR2 with e1 e2
        subst e1
        subst e2
        clear h0 hkl
        go_wp2
        go_ret2
        exact ⟨rfl, he.out.bel⟩
    · obtain rfl : k = n := by omega
      have e1 : (L.take k).any (rtlT T) = L.any (rtlT T) := by rw [List.take_of_length_le (by rw [HN.out]; exact Nat.le_refl _)]
      rw [e1]
      have HGA : Hid (∀ l ∈ L, accE T l = 0) := fun l hl => by
        obtain ⟨j, hj, e⟩ := memL_getD L l hl
        rw [← e]; exact hgd.out j (by rw [HN.out] at hj; exact hj)
      obtain ⟨G, hG⟩ : ∃ G, L.any (rtlT T) = G := ⟨_, rfl⟩
      rw [hG]
      have HG := Lib.hid hG
      clear e1 hG hgd
      go_wp2
      go_loopw [37] (fun i wv => ∃ j : Nat, j ≤ k ∧ i = .int .i64 j ∧ Hid (G = true → ∀ i, i < j → ruleT T (L.getD i []) = 0) ∧ Hid (Env w x T wv)) (fun i _ => k - (intOf i).toNat)
      case atStart => exact ⟨0, Nat.zero_le _, rfl, fun _ i hi => by omega, he⟩
      case round =>
        obtain ⟨j, hj, rfl, hgj, hf⟩ := hrel
        by_cases hjm : j < k
        · have hjl : j < L.length := by rw [HN.out]; exact hjm
          obtain ⟨b, off, q, c, rfl, hck, _, hi⟩ := (HI.out.below hf.out.bel) j hjl
          obtain ⟨l, hll⟩ : ∃ l, L.getD j [] = l := ⟨_, rfl⟩
          have HML : Hid (l.length ≤ 17592186043904) := by unfold Hid; rw [← hll]; exact HLL.out _ (getD_memL L j hjl)
          have HAL : Hid (accE T l = 0) := by unfold Hid; rw [← hll]; exact HGA.out _ (getD_memL L j hjl)
          rw [hll] at hck hi
          have HQ := Lib.hid hi
          have HLK := Lib.hid hll
          obtain ⟨z, hz⟩ : ∃ z, Hid (ruleT T l = z) := ⟨_, rfl⟩
          have hru : Hid (rulR T l = (z, 0)) := by unfold Hid rulR; rw [if_neg (by rw [HAL.out]; simp), hz.out]
          have hzb := rule_bd T l
          rw [hz.out] at hzb
          obtain ⟨hz0, hz6⟩ := hzb
          have hrl := fun W (h1 : TabV W x T) h2 => rrule_at x T q c l z 0 W h1 HCP.out h2 HML.out hru
          obtain ⟨m, hm⟩ : ∃ m, l.length = m := ⟨_, rfl⟩
          rw [hm] at hrl hck
          have HRL := Lib.hid hrl
          clear hll hi hrl hm
          obtain ⟨⟨k0, k1, k2, k3, k4, k5⟩, ⟨k6, k7, k8, k9, k10, k11⟩⟩ := hf.out.box.load
          go_wp2_with fail
          refine (HRL.out _ hf.out.tab HQ.out).mono ?_
          rintro e w2 ⟨rfl, hb⟩
          replace hf := Lib.hid (hf.out.step hb)
          clear hb hck
          clear k0 k1 k2 k3 k4 k5 k6 k7 k8 k9 k10 k11
          cases G with
          | false =>
            clear hjl
            go_wp2
            go_roundw
            case rel => exact ⟨j + 1, by omega, by go_num, (fun h => by cases h), hf⟩
            case measure => first | (simp [intOf]; done) | (simp [intOf]; omega)
          | true =>
            by_cases hz1 : 0 < z
            · have g1 : decide ((0 : Int) < z) = true := decide_eq_true hz1
              have hR2 := hR.out
              rw [domR_vio HGA.out HG.out hjl (hgj.out rfl) (by rw [HLK.out, hz.out]; omega)] at hR2
              injection hR2 with e1 e2
              subst e1
              subst e2
              clear hjl
              go_wp2
              go_ret2
              exact ⟨rfl, hf.out.bel⟩
            · have g1 : decide ((0 : Int) < z) = false := decide_eq_false hz1
              have hgj2 : Hid (true = true → ∀ i, i < j + 1 → ruleT T (L.getD i []) = 0) := fun h i hi => by
                by_cases e : i = j
                · rw [e, HLK.out, hz.out]; omega
                · exact hgj.out rfl i (by omega)
              clear hjl
              go_wp2
              go_roundw
              case rel => exact ⟨j + 1, by omega, by go_num, hgj2, hf⟩
              case measure => first | (simp [intOf]; done) | (simp [intOf]; omega)
        · obtain rfl : j = k := by omega
          have hR2 := hR.out
          have hdd : domR T L = (0, 0) := by
            cases G with
            | false => exact domR_no HGA.out HG.out
            | true =>
              refine domR_ok HGA.out (fun l hl => ?_)
              obtain ⟨i, hi, e⟩ := memL_getD L l hl
              rw [← e]
              exact hgj.out rfl i (by rw [HN.out] at hi; exact hi)
          rw [hdd] at hR2
          injection hR2 with e1 e2
          subst e1
          subst e2
          clear hdd
          go_wp2
          go_ret2
          exact ⟨rfl, hf.out.bel⟩

end Go.Proofs.YtiafhifbgdkgaaaGreatDoor

namespace Go.Proofs.YtiafhifbgdkgaaaGreatDoor
open Go.RowKit
set_option linter.unusedVariables false

set_option maxRecDepth 100000 in
set_option maxHeartbeats 8000000 in
theorem agrees16_at (x : TV) (T : Tb) (p : Option Addr) (n cap : Nat) (zs : List Int) (q : Option Addr) (m c : Nat) (L : List (List Int)) (w : World) (hx : TabV w x T) (hcap : CapOf x) (hr : Rsv w) (hin : IntsIn w p zs) (HN : Hid (zs.length = n)) (hl : n ≤ 17592186043904) (hil : LsIn w q L) (HM : Hid (L.length = m)) (hm : 0 < m ∧ m ≤ 17592186043904) (hll : ∀ l ∈ L, l.length ≤ 17592186043904) :
    Calls Tryz.prog 7 #[x.agg, .slice p n cap, .slice q m c] w (Gives (.bool true) w) := by
  have HE := Lib.hid (Env.new hx)
  have HI := Lib.hid hin
  have HL := Lib.hid hil
  have HR := Lib.hid hr
  obtain ⟨K, E, hK⟩ : ∃ K E, Hid (rulR T zs = (K, E)) := ⟨_, _, rfl⟩
  obtain ⟨K2, E2, hD⟩ : ∃ K E, Hid (domR T L = (K, E)) := ⟨_, _, rfl⟩
  obtain ⟨B, hB⟩ : ∃ B, Hid (rtlR T zs = B) := ⟨_, rfl⟩
  have hlz : zs.length ≤ 17592186043904 := by rw [HN.out]; exact hl
  have hp1 := fun W (h1 : TabV W x T) h2 h3 => brule_at x T p cap zs K E W h1 h2 h3 hlz hK
  have hp2 := fun W (h1 : TabV W x T) h3 => rrule_at x T p cap zs K E W h1 hcap h3 hlz hK
  have hd1 := fun W (h1 : TabV W x T) h2 h3 => bdom_at x T q m c L K2 E2 W h1 h2 h3 HM hm hll hD
  have hd2 := fun W (h1 : TabV W x T) h3 => rdom_at x T q m c L K2 E2 W h1 hcap h3 HM hm.2 hll hD
  have hc1 := fun W (h1 : TabV W x T) h2 h3 => brtl_at x T p cap zs B W h1 h2 h3 hlz hB
  have hc2 := fun W (h1 : TabV W x T) h3 => rrtl_at x T p cap zs B W h1 hcap h3 hlz hB
  rw [HN.out] at hp1 hp2 hc1 hc2
  have HP1 := Lib.hid hp1
  have HP2 := Lib.hid hp2
  have HD1 := Lib.hid hd1
  have HD2 := Lib.hid hd2
  have HC1 := Lib.hid hc1
  have HC2 := Lib.hid hc2
  clear hx hin hcap hr hp1 hp2 hc1 hc2 hd1 hd2 hil hll hlz hK hD hB
  have n0 : (K == K) = true := by simp
  have n1 : (E == E) = true := by simp
  have n2 : (K2 == K2) = true := by simp
  have n3 : (E2 == E2) = true := by simp
  have n4 : (B == B) = true := by simp
  simp only [TV.agg]
  go_enter Tryz.func7, Tryz.ntmps7
  obtain ⟨⟨k0, k1, k2, k3, k4, k5⟩, ⟨k6, k7, k8, k9, k10, k11⟩⟩ := HE.out.box.load
  go_wp2_with fail
  refine (HP1.out _ HE.out.tab (HR.out.below HE.out.bel) (HI.out.below HE.out.bel)).mono ?_
  rintro e w1 ⟨rfl, hb⟩
  replace HE := Lib.hid (HE.out.step hb)
  clear hb k0 k1 k2 k3 k4 k5 k6 k7 k8 k9 k10 k11
  obtain ⟨⟨k0, k1, k2, k3, k4, k5⟩, ⟨k6, k7, k8, k9, k10, k11⟩⟩ := HE.out.box.load
  go_wp2_with fail
  refine (HP2.out _ HE.out.tab (HI.out.below HE.out.bel)).mono ?_
  rintro e w2 ⟨rfl, hb⟩
  replace HE := Lib.hid (HE.out.step hb)
  clear hb k0 k1 k2 k3 k4 k5 k6 k7 k8 k9 k10 k11
  obtain ⟨⟨k0, k1, k2, k3, k4, k5⟩, ⟨k6, k7, k8, k9, k10, k11⟩⟩ := HE.out.box.load
  go_wp2_with fail
  refine (HD1.out _ HE.out.tab (HR.out.below HE.out.bel) (HL.out.below HE.out.bel)).mono ?_
  rintro e w3 ⟨rfl, hb⟩
  replace HE := Lib.hid (HE.out.step hb)
  clear hb k0 k1 k2 k3 k4 k5 k6 k7 k8 k9 k10 k11
  obtain ⟨⟨k0, k1, k2, k3, k4, k5⟩, ⟨k6, k7, k8, k9, k10, k11⟩⟩ := HE.out.box.load
  go_wp2_with fail
  refine (HD2.out _ HE.out.tab (HL.out.below HE.out.bel)).mono ?_
  rintro e w4 ⟨rfl, hb⟩
  replace HE := Lib.hid (HE.out.step hb)
  clear hb k0 k1 k2 k3 k4 k5 k6 k7 k8 k9 k10 k11
  go_upto_region 5 with (fail)
  have e0 := HE.out.step (drew_one w4)
  have HE0 := Lib.hid e0
  clear e0
  obtain ⟨⟨k0, k1, k2, k3, k4, k5⟩, ⟨k6, k7, k8, k9, k10, k11⟩⟩ := HE.out.box.load
  go_region_held3 (boxF w.heap.size x)
    (first
      | exact HE0.out.box.flat
      | exact (HE0.out.step hb3).box.flat
      | exact ((HE0.out.step hb3).step hb4).box.flat)
    (first
      | (go_at_call 23; (with_reducible refine (HC1.out _ HE0.out.tab (HR.out.below HE0.out.bel) (HI.out.below HE0.out.bel)).mono ?_); rintro e w3 ⟨rfl, hb3⟩)
      | (go_at_call 11; (with_reducible refine (HC2.out _ (HE0.out.step hb3).tab (HI.out.below (HE0.out.step hb3).bel)).mono ?_); rintro e w4 ⟨rfl, hb4⟩)
      | fail)
  all_goals
    have HBZ := Lib.hid (((HE0.out.step hb3).step hb4)).bel
    clear hb3 hb4 HE0
    go_wp2
    go_ret
    exact ⟨by simp, HBZ.out⟩

end Go.Proofs.YtiafhifbgdkgaaaGreatDoor
