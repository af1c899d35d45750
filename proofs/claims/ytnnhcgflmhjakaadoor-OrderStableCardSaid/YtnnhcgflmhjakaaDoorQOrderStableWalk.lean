/-
  The walk of OrderStable (genOS.py).
-/
import Derived.Test.YtnnhcgflmhjakaaDoorPkS
set_option linter.unusedSimpArgs false
set_option linter.unusedVariables false
namespace Go.Proofs.YtnnhcgflmhjakaaDoor
open Go.RowKit
set_option linter.unusedVariables false

structure SEnv (w0 : World) (g : Nat) (x : TV) (T : Tb) (pi : Option Addr) (xs : List Int) (pX : Option Addr) (X : List Int) (w : World) : Prop where
  env : LEnv w0 g x T w
  ri : IntsIn w pi xs
  rx : IntsIn w pX X
theorem SEnv.step {w0 w w' : World} {g : Nat} {x : TV} {T : Tb} {pi pX : Option Addr} {xs X : List Int} (h : SEnv w0 g x T pi xs pX X w) (hb : Below w.heap.size w w') : SEnv w0 g x T pi xs pX X w' := ⟨h.env.step hb, h.ri.below hb, h.rx.below hb⟩

theorem count_at (c : Int) (l : List Int) (j : Nat) (hj : j < l.length) : (l.take (j + 1)).count c = (l.take j).count c + if l.getD j 0 = c then 1 else 0 := by
  rw [take_snoc_any l j hj, List.count_append]
  simp [List.count_cons]

set_option maxRecDepth 100000 in
set_option maxHeartbeats 8000000 in
theorem orderStable_walk (p : Option Addr) (cap : Nat) (zs : List Int) (q : Option Addr) (cq : Nat) (ms : List Int) (w : World) (hin : IntsIn w p zs) (hl : zs.length ≤ 17592186043904) (him : IntsIn w q ms) (hml : ms.length ≤ 17592186043904) (hr : Rsv w) :
    Calls Tryd.prog 3 #[.slice p zs.length cap, .slice q ms.length cq] w (Gives (.bool true) w) := by
  have HI := Lib.hid hin
  have HL := Lib.hid hl
  have HMI := Lib.hid him
  have HML := Lib.hid hml
  have HR := Lib.hid hr
  clear hin hl him hml hr
  go_enter Tryd.func3, Tryd.ntmps3
  go_wp2_with fail
  refine (tables_any p cap zs _ HI.out HL.out).mono ?_
  rintro e w1 ⟨⟨a0, a1, a2, a3, a4, a5, a6, a7, a8, a9, a10, a11⟩, T, rfl, htv, hm, hcap1, hb1⟩
  obtain ⟨pa0, na0, qa0, hsl0⟩ : Slc a0 := htv.cat.slc
  subst hsl0
  obtain ⟨pa1, na1, qa1, hsl1⟩ : Slc a1 := htv.cls.slc
  subst hsl1
  obtain ⟨pa2, na2, qa2, hsl2⟩ : Slc a2 := htv.joi.slc
  subst hsl2
  obtain ⟨pa3, na3, qa3, hsl3⟩ : Slc a3 := htv.bid.slc
  subst hsl3
  obtain ⟨pa4, na4, qa4, hsl4⟩ : Slc a4 := htv.scr.slc
  subst hsl4
  obtain ⟨pa5, na5, qa5, hsl5⟩ : Slc a5 := htv.sta.slc
  subst hsl5
  obtain ⟨pa6, na6, qa6, hsl6⟩ : Slc a6 := htv.ign.slc
  subst hsl6
  obtain ⟨pa7, na7, qa7, hsl7⟩ : Slc a7 := htv.ext.slc
  subst hsl7
  obtain ⟨pa8, na8, qa8, hsl8⟩ : Slc a8 := htv.map.slc
  subst hsl8
  obtain ⟨pa9, na9, qa9, hsl9⟩ : Slc a9 := htv.dec.slc
  subst hsl9
  obtain ⟨pa10, na10, qa10, hsl10⟩ : Slc a10 := htv.exc.slc
  subst hsl10
  obtain ⟨pa11, na11, qa11, hsl11⟩ : Slc a11 := htv.pro.slc
  subst hsl11
  have hba1 : Below w1.heap.size w1 (w1.alloc (.cells (tabCells ⟨.slice pa0 na0 qa0, .slice pa1 na1 qa1, .slice pa2 na2 qa2, .slice pa3 na3 qa3, .slice pa4 na4 qa4, .slice pa5 na5 qa5, .slice pa6 na6 qa6, .slice pa7 na7 qa7, .slice pa8 na8 qa8, .slice pa9 na9 qa9, .slice pa10 na10 qa10, .slice pa11 na11 qa11⟩) 26)) := (Below.refl _ _).alloc (Nat.le_refl _) _
  have HT1 : Hid (TabV (w1.alloc (.cells (tabCells ⟨.slice pa0 na0 qa0, .slice pa1 na1 qa1, .slice pa2 na2 qa2, .slice pa3 na3 qa3, .slice pa4 na4 qa4, .slice pa5 na5 qa5, .slice pa6 na6 qa6, .slice pa7 na7 qa7, .slice pa8 na8 qa8, .slice pa9 na9 qa9, .slice pa10 na10 qa10, .slice pa11 na11 qa11⟩) 26)) ⟨.slice pa0 na0 qa0, .slice pa1 na1 qa1, .slice pa2 na2 qa2, .slice pa3 na3 qa3, .slice pa4 na4 qa4, .slice pa5 na5 qa5, .slice pa6 na6 qa6, .slice pa7 na7 qa7, .slice pa8 na8 qa8, .slice pa9 na9 qa9, .slice pa10 na10 qa10, .slice pa11 na11 qa11⟩ T) := htv.below hba1
  have HX1 : Hid (BoxT (w1.alloc (.cells (tabCells ⟨.slice pa0 na0 qa0, .slice pa1 na1 qa1, .slice pa2 na2 qa2, .slice pa3 na3 qa3, .slice pa4 na4 qa4, .slice pa5 na5 qa5, .slice pa6 na6 qa6, .slice pa7 na7 qa7, .slice pa8 na8 qa8, .slice pa9 na9 qa9, .slice pa10 na10 qa10, .slice pa11 na11 qa11⟩) 26)) w1.heap.size ⟨.slice pa0 na0 qa0, .slice pa1 na1 qa1, .slice pa2 na2 qa2, .slice pa3 na3 qa3, .slice pa4 na4 qa4, .slice pa5 na5 qa5, .slice pa6 na6 qa6, .slice pa7 na7 qa7, .slice pa8 na8 qa8, .slice pa9 na9 qa9, .slice pa10 na10 qa10, .slice pa11 na11 qa11⟩) := BoxT.new _ _ _
  have HB1 : Hid (Below w.heap.size w (w1.alloc (.cells (tabCells ⟨.slice pa0 na0 qa0, .slice pa1 na1 qa1, .slice pa2 na2 qa2, .slice pa3 na3 qa3, .slice pa4 na4 qa4, .slice pa5 na5 qa5, .slice pa6 na6 qa6, .slice pa7 na7 qa7, .slice pa8 na8 qa8, .slice pa9 na9 qa9, .slice pa10 na10 qa10, .slice pa11 na11 qa11⟩) 26))) := hb1.trans (hba1.mono hb1.size)
  have HM := Lib.hid hm
  have HCAP : Hid (CapOf ⟨.slice pa0 na0 qa0, .slice pa1 na1 qa1, .slice pa2 na2 qa2, .slice pa3 na3 qa3, .slice pa4 na4 qa4, .slice pa5 na5 qa5, .slice pa6 na6 qa6, .slice pa7 na7 qa7, .slice pa8 na8 qa8, .slice pa9 na9 qa9, .slice pa10 na10 qa10, .slice pa11 na11 qa11⟩) := hcap1
  clear htv hm hcap1 hb1 hba1
  simp only [tabCells] at HT1 HX1 HB1
  go_wp2_with fail
  generalize (w1.alloc (.cells #[.slice pa0 na0 qa0, .slice pa1 na1 qa1, .slice pa2 na2 qa2, .slice pa3 na3 qa3, .slice pa4 na4 qa4, .slice pa5 na5 qa5, .slice pa6 na6 qa6, .slice pa7 na7 qa7, .slice pa8 na8 qa8, .slice pa9 na9 qa9, .slice pa10 na10 qa10, .slice pa11 na11 qa11] 26)) = W at HT1 HX1 HB1 ⊢
  generalize w1.heap.size = g at HX1 ⊢
  generalize (⟨.slice pa0 na0 qa0, .slice pa1 na1 qa1, .slice pa2 na2 qa2, .slice pa3 na3 qa3, .slice pa4 na4 qa4, .slice pa5 na5 qa5, .slice pa6 na6 qa6, .slice pa7 na7 qa7, .slice pa8 na8 qa8, .slice pa9 na9 qa9, .slice pa10 na10 qa10, .slice pa11 na11 qa11⟩ : TV) = x at HT1 HX1 HCAP
  have HE : Hid (LEnv w g x T W) := ⟨HT1.out, HX1.out, HB1.out⟩
  clear HT1 HX1 HB1
  refine (marks_any q cq ms _ (HMI.out.below HE.out.bel) HML.out).mono ?_
  rintro e w2 ⟨xs, v2, rfl, hlen, hsca, hi2, hb2⟩
  obtain ⟨pi, ci, rfl, hii⟩ := hi2.inn
  replace HE := Lib.hid (HE.out.step hb2)
  have HRI := Lib.hid hii
  have HAC := Lib.hid (accE_zero (T := T) HM.out.check (by omega) hsca)
  obtain ⟨X, hX⟩ : ∃ X, ordS (clsT T) xs = X := ⟨_, rfl⟩
  have HO : Hid (ordL T xs = X) := by unfold Hid ordL; rw [HAC.out, if_pos rfl, hX]
  have hXl : X.length = xs.length := by rw [← hX, ordS_length]
  have HXA : Hid (accE T X = 0) := accE_zero HM.out.check (by omega) (by
    rw [List.all_eq_true]; intro c hc
    exact List.all_eq_true.1 hsca c ((ordS_perm (clsT T) xs).mem_iff.1 (by rw [hX]; exact hc)))
  have hXX : ordS (clsT T) X = X := by rw [← hX]; exact ordS_twice _ _
  have HXO : Hid (ordL T X = X) := by unfold Hid ordL; rw [HXA.out, if_pos rfl, hXX]
  have HXS : Hid (srtB T X = true) := by unfold Hid srtB; rw [HXA.out, hXX]; simp
  have HCT : Hid (∀ c, X.count c = xs.count c) := fun c => by rw [← hX]; exact (ordS_perm (clsT T) xs).count_eq c
  have HST : Hid (∀ i, i < xs.length → clsT T (xs.getD i 0) = 0 → X.getD i 0 = xs.getD i 0) := fun i hi hk => by rw [← hX]; exact ordS_stays (clsT T) xs i hi hk
  obtain ⟨n, hn⟩ : ∃ n, xs.length = n := ⟨_, rfl⟩
  have hoc := fun W (h1 : TabV W x T) h2 h3 => order_at x T pi ci xs 0 X W h1 h2 h3 (by omega) HAC HO
  rw [hn] at hXl hlen hoc ⊢
  have HOC := Lib.hid hoc
  have HXN := Lib.hid hXl
  have HN := Lib.hid hn
  clear hii hi2 hsca hX hb2 hXX hoc hXl hn
  obtain ⟨⟨k0, k1, k2, k3, k4, k5⟩, ⟨k6, k7, k8, k9, k10, k11⟩⟩ := HE.out.box.load
  go_wp2_with fail
  refine (HOC.out _ HE.out.tab (HR.out.below HE.out.bel) HRI.out).mono ?_
  rintro e w3 ⟨v3, rfl, ho3, hb3⟩
  obtain ⟨pX, cX, hv3, hX3⟩ := ho3.inn
  rw [HXN.out] at hv3
  subst hv3
  have HS : Hid (SEnv w g x T pi xs pX X w3) := ⟨HE.out.step hb3, HRI.out.below hb3, hX3⟩
  have hoc := fun W (h1 : TabV W x T) h2 h3 => order_at x T pX cX X 0 X W h1 h2 h3 (by rw [HXN.out]; omega) HXA HXO
  have hsc := fun W (h1 : TabV W x T) h2 h3 => sorted_at x T pX cX X true W h1 h2 h3 (by rw [HXN.out]; omega) HXS
  rw [HXN.out] at hoc hsc
  have HOX := Lib.hid hoc
  have HSX := Lib.hid hsc
  clear ho3 hb3 hX3 hoc hsc HE HRI k0 k1 k2 k3 k4 k5 k6 k7 k8 k9 k10 k11
  obtain ⟨⟨k0, k1, k2, k3, k4, k5⟩, ⟨k6, k7, k8, k9, k10, k11⟩⟩ := HS.out.env.box.load
  go_wp2_with fail
  refine (HOX.out _ HS.out.env.tab (HR.out.below HS.out.env.bel) HS.out.rx).mono ?_
  rintro e w4 ⟨v4, rfl, ho4, hb4⟩
  obtain ⟨pY, cY, hv4, hY4⟩ := ho4.inn
  rw [HXN.out] at hv4
  subst hv4
  replace HS := Lib.hid (HS.out.step hb4)
  have HY := Lib.hid hY4
  clear ho4 hb4 hY4 k0 k1 k2 k3 k4 k5 k6 k7 k8 k9 k10 k11
  go_wp2_with fail
  refine (same_at _ _ X X true _ ⟨pX, cX, by rw [HXN.out], HS.out.rx, by rw [HXN.out]; omega⟩ ⟨pY, cY, by rw [HXN.out], HY.out, by rw [HXN.out]; omega⟩ (by simp [Hid])).mono ?_
  rintro e w5 ⟨rfl, hb5⟩
  replace HS := Lib.hid (HS.out.step hb5)
  clear hb5
  obtain ⟨⟨k0, k1, k2, k3, k4, k5⟩, ⟨k6, k7, k8, k9, k10, k11⟩⟩ := HS.out.env.box.load
  go_wp2_with fail
  refine (HSX.out _ HS.out.env.tab (HR.out.below HS.out.env.bel) HS.out.rx).mono ?_
  rintro e w6 ⟨rfl, hb6⟩
  replace HS := Lib.hid (HS.out.step hb6)
  clear hb6 k0 k1 k2 k3 k4 k5 k6 k7 k8 k9 k10 k11
  go_wp2
  go_loopw [59] (fun i wr => ∃ k : Nat, k ≤ n ∧ i = .int .i64 k ∧ Hid (SEnv w g x T pi xs pX X wr)) (fun i _ => n - (intOf i).toNat)
  case atStart => exact ⟨0, Nat.zero_le _, rfl, HS⟩
  case round =>
    obtain ⟨k, hk, rfl, hs⟩ := hrel
    by_cases hlt : k < n
    · obtain ⟨c, hc⟩ : ∃ c, xs.getD k 0 = c := ⟨_, rfl⟩
      have HC := Lib.hid hc
      obtain ⟨bi, oi, e1, hci⟩ := hs.out.ri k (by rw [HN.out]; exact hlt)
      rw [hc] at hci
      subst e1
      clear hc
      go_wp2
      obtain ⟨wo, rfl⟩ : ∃ wo : World, wo = wr := ⟨_, rfl⟩
      go_loopw [13, 14, 66] (fun a b i wr2 => ∃ j : Nat, j ≤ n ∧ i = .int .i64 j ∧ (∃ m : Nat, a = .int .i64 m ∧ m ≤ j ∧ Hid ((xs.take j).count c = m)) ∧ (∃ m : Nat, b = .int .i64 m ∧ m ≤ j ∧ Hid ((X.take j).count c = m)) ∧ wo = wr2) (fun _ _ i _ => n - (intOf i).toNat)
      case atStart => exact ⟨0, Nat.zero_le _, rfl, ⟨0, rfl, Nat.le_refl _, rfl⟩, ⟨0, rfl, Nat.le_refl _, rfl⟩, rfl⟩
      case round =>
        obtain ⟨j, hj, rfl, ⟨m1, rfl, hm1, hc1⟩, ⟨m2, rfl, hm2, hc2⟩, rfl⟩ := hrel
        by_cases hlj : j < n
        · obtain ⟨b1, o1, e1, hd1⟩ := hs.out.ri j (by rw [HN.out]; exact hlj)
          cases e1
          obtain ⟨b2, o2, e2, hd2⟩ := hs.out.rx j (by rw [HXN.out]; exact hlj)
          subst e2
          have hq1 := count_at c xs j (by rw [HN.out]; exact hlj)
          have hq2 := count_at c X j (by rw [HXN.out]; exact hlj)
          rw [hc1.out] at hq1
          rw [hc2.out] at hq2
          obtain ⟨y1, hy1⟩ : ∃ y, xs.getD j 0 = y := ⟨_, rfl⟩
          obtain ⟨y2, hy2⟩ : ∃ y, X.getD j 0 = y := ⟨_, rfl⟩
          rw [hy1] at hd1 hq1
          rw [hy2] at hd2 hq2
          have HQ1 := Lib.hid hq1
          have HQ2 := Lib.hid hq2
          clear hy1 hy2 hq1 hq2 hci
          by_cases g1 : y1 = c
          · have t1 : (y1 == c) = true := by simp [g1]
            have HR1 : Hid ((xs.take (j + 1)).count c = m1 + 1) := by unfold Hid; rw [HQ1.out, if_pos g1]
            clear g1
            by_cases g2 : y2 = c
            · have t2 : (y2 == c) = true := by simp [g2]
              have HR2 : Hid ((X.take (j + 1)).count c = m2 + 1) := by unfold Hid; rw [HQ2.out, if_pos g2]
              clear g2
              go_wp2
              go_roundw
              case rel => exact ⟨j + 1, by omega, by go_num, ⟨m1 + 1, by go_num, by omega, HR1⟩, ⟨m2 + 1, by go_num, by omega, HR2⟩, trivial⟩
              case measure => simp [intOf]; omega
            · have t2 : (y2 == c) = false := by simp [g2]
              have HR2 : Hid ((X.take (j + 1)).count c = m2) := by unfold Hid; rw [HQ2.out, if_neg g2]; rfl
              clear g2
              go_wp2
              go_roundw
              case rel => exact ⟨j + 1, by omega, by go_num, ⟨m1 + 1, by go_num, by omega, HR1⟩, ⟨m2, rfl, by omega, HR2⟩, trivial⟩
              case measure => simp [intOf]; omega
          · have t1 : (y1 == c) = false := by simp [g1]
            have HR1 : Hid ((xs.take (j + 1)).count c = m1) := by unfold Hid; rw [HQ1.out, if_neg g1]; rfl
            clear g1
            by_cases g2 : y2 = c
            · have t2 : (y2 == c) = true := by simp [g2]
              have HR2 : Hid ((X.take (j + 1)).count c = m2 + 1) := by unfold Hid; rw [HQ2.out, if_pos g2]
              clear g2
              go_wp2
              go_roundw
              case rel => exact ⟨j + 1, by omega, by go_num, ⟨m1, rfl, by omega, HR1⟩, ⟨m2 + 1, by go_num, by omega, HR2⟩, trivial⟩
              case measure => simp [intOf]; omega
            · have t2 : (y2 == c) = false := by simp [g2]
              have HR2 : Hid ((X.take (j + 1)).count c = m2) := by unfold Hid; rw [HQ2.out, if_neg g2]; rfl
              clear g2
              go_wp2
              go_roundw
              case rel => exact ⟨j + 1, by omega, by go_num, ⟨m1, rfl, by omega, HR1⟩, ⟨m2, rfl, by omega, HR2⟩, trivial⟩
              case measure => simp [intOf]; omega
        · obtain rfl : j = n := by omega
          have hmm : m1 = m2 := by
            rw [← hc1.out, ← hc2.out, List.take_of_length_le (Nat.le_of_eq HN.out), List.take_of_length_le (Nat.le_of_eq HXN.out)]
            exact (HCT.out c).symm
          subst hmm
          obtain ⟨z, hz⟩ : ∃ z, Hid (clsT T c = z) := ⟨_, rfl⟩
          obtain ⟨⟨k0, k1, k2, k3, k4, k5⟩, ⟨k6, k7, k8, k9, k10, k11⟩⟩ := hs.out.env.box.load
          clear hci hc1 hc2
          go_wp2_with fail
          refine (rclass_at x T c z _ hs.out.env.tab hz).mono ?_
          rintro e w8 ⟨rfl, hb8⟩
          have HS8 := Lib.hid (hs.out.step hb8)
          clear hb8 k0 k1 k2 k3 k4 k5 k6 k7 k8 k9 k10 k11
          by_cases h0 : z = 0
          · have d0 : (z == 0) = true := by simp [h0]
            obtain ⟨b2, o2, e2, hd2⟩ := HS8.out.rx k (by rw [HXN.out]; exact hlt)
            subst e2
            rw [HST.out k (by rw [HN.out]; exact hlt) (by rw [HC.out, hz.out]; exact h0), HC.out] at hd2
            clear h0
            go_wp2
            go_roundw
            case rel => exact ⟨k + 1, by omega, by go_num, HS8⟩
            case measure => simp [intOf]; omega
          · have d0 : (z == 0) = false := by simp [h0]
            clear h0
            go_wp2
            go_roundw
            case rel => exact ⟨k + 1, by omega, by go_num, HS8⟩
            case measure => simp [intOf]; omega
    · obtain rfl : k = n := by omega
      go_wp2_with fail
      refine (awake6_any _ (HR.out.below hs.out.env.bel)).mono ?_
      rintro e w8 ⟨rfl, hb8⟩
      have HB8 := Lib.hid (hs.out.env.bel.trans (hb8.mono hs.out.env.bel.size))
      clear hb8
      go_wp2
      go_ret
      exact ⟨rfl, HB8.out⟩

end Go.Proofs.YtnnhcgflmhjakaaDoor
