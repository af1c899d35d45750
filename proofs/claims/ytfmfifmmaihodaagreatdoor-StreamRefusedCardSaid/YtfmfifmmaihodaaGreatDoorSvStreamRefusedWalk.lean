/-
  The walk of StreamRefused (genSW.py).
-/
import Derived.Test.YtfmfifmmaihodaaGreatDoorSvPkZX
import Derived.Deep.RegionHeld3
import Derived.Deep.DeepCutAuto
set_option linter.unusedSimpArgs false
set_option linter.unusedVariables false
namespace Go.Proofs.YtfmfifmmaihodaaGreatDoor
open Go.RowKit
set_option linter.unusedVariables false

set_option maxRecDepth 100000 in
set_option maxHeartbeats 8000000 in
theorem streamRefused_walk (p0 : Option Addr) (cap0 : Nat) (zs0 : List Int) (p1 : Option Addr) (cap1 : Nat) (zs1 : List Int) (n2 : Int) (w : World) (hin0 : IntsIn w p0 zs0) (hl0 : zs0.length ≤ 17592186043904) (hin1 : IntsIn w p1 zs1) (hl1 : zs1.length ≤ 17592186043904) (hr : Rsv w) :
    Calls Tryz.prog 6 #[.slice p0 zs0.length cap0, .slice p1 zs1.length cap1, .int .i64 n2] w (Gives (.bool true) w) := by
  have HI0 := Lib.hid hin0
  have HL0 := Lib.hid hl0
  have HI1 := Lib.hid hin1
  have HL1 := Lib.hid hl1
  have HR := Lib.hid hr
  clear hin0 hl0 hin1 hl1 hr
  go_enter Tryz.func6, Tryz.ntmps6
  go_wp2_with fail
  refine (tables_any p0 cap0 zs0 _ HI0.out HL0.out).mono ?_
  rintro e w1 ⟨⟨a0, a1, a2, a3, a4, a5, a6, a7, a8, a9, a10, a11⟩, T, rfl, htv, hm, hcap1, hb1⟩
  obtain ⟨pa0, na0, qa0, hsl0⟩ : Slc a0 := htv.cat.slc
  subst hsl0
  obtain ⟨pa1, na1, qa1, hsl1⟩ : Slc a1 := htv.cls.slc
  subst hsl1
  obtain ⟨pa2, na2, qa2, hsl2⟩ : Slc a2 := htv.joi.slc
  subst hsl2
  obtain ⟨pa3, na3, qa3, hsl3⟩ : Slc a3 := htv.bid.slc
  subst hsl3
  obtain ⟨pa4, na4, qa4, hsl4⟩ : Slc a4 := htv.scr.slc
  subst hsl4
  obtain ⟨pa5, na5, qa5, hsl5⟩ : Slc a5 := htv.sta.slc
  subst hsl5
  obtain ⟨pa6, na6, qa6, hsl6⟩ : Slc a6 := htv.ign.slc
  subst hsl6
  obtain ⟨pa7, na7, qa7, hsl7⟩ : Slc a7 := htv.ext.slc
  subst hsl7
  obtain ⟨pa8, na8, qa8, hsl8⟩ : Slc a8 := htv.map.slc
  subst hsl8
  obtain ⟨pa9, na9, qa9, hsl9⟩ : Slc a9 := htv.dec.slc
  subst hsl9
  obtain ⟨pa10, na10, qa10, hsl10⟩ : Slc a10 := htv.exc.slc
  subst hsl10
  obtain ⟨pa11, na11, qa11, hsl11⟩ : Slc a11 := htv.pro.slc
  subst hsl11
  have hba1 : Below w1.heap.size w1 (w1.alloc (.cells (tabCells ⟨.slice pa0 na0 qa0, .slice pa1 na1 qa1, .slice pa2 na2 qa2, .slice pa3 na3 qa3, .slice pa4 na4 qa4, .slice pa5 na5 qa5, .slice pa6 na6 qa6, .slice pa7 na7 qa7, .slice pa8 na8 qa8, .slice pa9 na9 qa9, .slice pa10 na10 qa10, .slice pa11 na11 qa11⟩) 26)) := (Below.refl _ _).alloc (Nat.le_refl _) _
  have HT1 : Hid (TabV (w1.alloc (.cells (tabCells ⟨.slice pa0 na0 qa0, .slice pa1 na1 qa1, .slice pa2 na2 qa2, .slice pa3 na3 qa3, .slice pa4 na4 qa4, .slice pa5 na5 qa5, .slice pa6 na6 qa6, .slice pa7 na7 qa7, .slice pa8 na8 qa8, .slice pa9 na9 qa9, .slice pa10 na10 qa10, .slice pa11 na11 qa11⟩) 26)) ⟨.slice pa0 na0 qa0, .slice pa1 na1 qa1, .slice pa2 na2 qa2, .slice pa3 na3 qa3, .slice pa4 na4 qa4, .slice pa5 na5 qa5, .slice pa6 na6 qa6, .slice pa7 na7 qa7, .slice pa8 na8 qa8, .slice pa9 na9 qa9, .slice pa10 na10 qa10, .slice pa11 na11 qa11⟩ T) := htv.below hba1
  have HX1 : Hid (BoxT (w1.alloc (.cells (tabCells ⟨.slice pa0 na0 qa0, .slice pa1 na1 qa1, .slice pa2 na2 qa2, .slice pa3 na3 qa3, .slice pa4 na4 qa4, .slice pa5 na5 qa5, .slice pa6 na6 qa6, .slice pa7 na7 qa7, .slice pa8 na8 qa8, .slice pa9 na9 qa9, .slice pa10 na10 qa10, .slice pa11 na11 qa11⟩) 26)) w1.heap.size ⟨.slice pa0 na0 qa0, .slice pa1 na1 qa1, .slice pa2 na2 qa2, .slice pa3 na3 qa3, .slice pa4 na4 qa4, .slice pa5 na5 qa5, .slice pa6 na6 qa6, .slice pa7 na7 qa7, .slice pa8 na8 qa8, .slice pa9 na9 qa9, .slice pa10 na10 qa10, .slice pa11 na11 qa11⟩) := BoxT.new _ _ _
  have HB1 : Hid (Below w.heap.size w (w1.alloc (.cells (tabCells ⟨.slice pa0 na0 qa0, .slice pa1 na1 qa1, .slice pa2 na2 qa2, .slice pa3 na3 qa3, .slice pa4 na4 qa4, .slice pa5 na5 qa5, .slice pa6 na6 qa6, .slice pa7 na7 qa7, .slice pa8 na8 qa8, .slice pa9 na9 qa9, .slice pa10 na10 qa10, .slice pa11 na11 qa11⟩) 26))) := hb1.trans (hba1.mono hb1.size)
  have HM := Lib.hid hm
  have HCAP : Hid (CapOf ⟨.slice pa0 na0 qa0, .slice pa1 na1 qa1, .slice pa2 na2 qa2, .slice pa3 na3 qa3, .slice pa4 na4 qa4, .slice pa5 na5 qa5, .slice pa6 na6 qa6, .slice pa7 na7 qa7, .slice pa8 na8 qa8, .slice pa9 na9 qa9, .slice pa10 na10 qa10, .slice pa11 na11 qa11⟩) := hcap1
  clear htv hm hcap1 hb1 hba1
  simp only [tabCells] at HT1 HX1 HB1
  go_upto_region 2 with (fail)
  generalize (w1.alloc (.cells #[.slice pa0 na0 qa0, .slice pa1 na1 qa1, .slice pa2 na2 qa2, .slice pa3 na3 qa3, .slice pa4 na4 qa4, .slice pa5 na5 qa5, .slice pa6 na6 qa6, .slice pa7 na7 qa7, .slice pa8 na8 qa8, .slice pa9 na9 qa9, .slice pa10 na10 qa10, .slice pa11 na11 qa11] 26)) = W at HT1 HX1 HB1 ⊢
  generalize w1.heap.size = g at HX1 ⊢
  generalize (⟨.slice pa0 na0 qa0, .slice pa1 na1 qa1, .slice pa2 na2 qa2, .slice pa3 na3 qa3, .slice pa4 na4 qa4, .slice pa5 na5 qa5, .slice pa6 na6 qa6, .slice pa7 na7 qa7, .slice pa8 na8 qa8, .slice pa9 na9 qa9, .slice pa10 na10 qa10, .slice pa11 na11 qa11⟩ : TV) = x at HT1 HX1 HCAP
  have HE : Hid (LEnv w g x T W) := ⟨HT1.out, HX1.out, HB1.out⟩
  clear HT1 HX1 HB1
  obtain ⟨j0, HJ0, hj⟩ := pickN_nm n2 3 (by omega)
  have HJ : Hid (pickS n2 3 = (j0 : Int)) := HJ0
  clear HJ0
  obtain ⟨m, hm⟩ : ∃ m : Nat, j0 + 1 = m := ⟨_, rfl⟩
  have hm1 : 1 ≤ m := by omega
  have hm3 : m ≤ 3 := by omega
  have hw1 : IntKind.i64.wrap (1 + (j0 : Int)) = (m : Int) := by rw [IntWalk.i64_in _ (by omega)]; omega
  have hw2 : (1 : Int) + (j0 : Int) = (m : Int) := by omega
  have hw3 : IntKind.i64.wrap (m : Int) = (m : Int) := IntWalk.i64_in _ (by omega)
  have HNE : Hid (newE T (m : Int) = 0) := newE_mk HM.out.check (by omega) (by omega)
  have e0 := HE.out.step (drew_one W)
  have HE0 := Lib.hid e0
  clear e0 hm
  obtain ⟨⟨k0, k1, k2, k3, k4, k5⟩, ⟨k6, k7, k8, k9, k10, k11⟩⟩ := HE.out.box.load
  go_cut [8, 9] (fun a b wx => ∃ (s : Nat) (y : TV), a = .pointer (some ⟨s, 0, none⟩) ∧ b = .int .i64 0 ∧ Hid (StrV wx W.drew.heap.size s s y (nrmT T) m (s + 1) (.slice none 0 0) []) ∧ Hid (W.drew.heap.size ≤ s ∧ wx.heap.size = s + 1 ∧ Below W.drew.heap.size W.drew wx))
  case first =>
    go_region_held3 (boxF g x)
      (first
        | exact HE0.out.box.flat
        | exact (HE0.out.step hb4).box.flat)
      (first
        | (go_at_call 13; (with_reducible refine (pickN_at n2 3 j0 _ (by omega) (by omega) HJ).mono ?_); rintro e w3 ⟨rfl, rfl⟩)
        | (go_at_call 11; (with_reducible refine (new_at x T m _ HE0.out.tab (HR.out.below HE0.out.bel) HNE).mono ?_); rintro e w4 ⟨s, y, rfl, hs, hz, hz2, hb4⟩)
        | fail)
    all_goals
      try (go_wp2_with fail)
      go_meet
      exact ⟨s, y, rfl, rfl, hs, hz, hz2, hb4⟩
  case rest =>
    obtain ⟨s, y, rfl, rfl, HS2, HZ2⟩ := hcut
    have HB2 := Lib.hid (HE0.out.bel.trans (HZ2.out.2.2.mono HE0.out.bel.size))
    clear HE k0 k1 k2 k3 k4 k5 k6 k7 k8 k9 k10 k11
    generalize W.drew = W0 at HE0 HS2 HZ2 HB2
    have HE := HE0
    clear HE0
    go_wp2_with fail
    refine (dense9_any p1 cap1 zs1 _ (HI1.out.below HB2.out) HL1.out).mono ?_
    rintro e w3 ⟨xs, v3, rfl, hn3, hs3, hi3, hb3⟩
    obtain ⟨n, hn⟩ : ∃ n, xs.length = n := ⟨_, rfl⟩
    rw [hn] at hn3
    have HN := Lib.hid hn
    have HSX := Lib.hid hs3
    have HWS := Lib.hid (WSt.start HS2.out HZ2.out.1 HZ2.out.2.1 HZ2.out.2.2 hb3 hi3)
    obtain ⟨pin, cin, ein, _⟩ := hi3.inn
    rw [hn] at ein
    subst ein
    generalize w3.heap.size = c at HWS
    clear hn hs3 hi3 hb3 HB2 HS2 HZ2
    have HV : Hid (checkT T = 0) := HM.out.check
    have HW0 : Hid (Whl T [] [] []) := Whl.start T HV.out
    go_wp2
    go_loopw [11, 12, 39] (fun o q i wr => ∃ (k : Nat) (v : Value) (H O K : List Int), k ≤ n ∧ i = .int .i64 k ∧ K.length ≤ k ∧ Hid (WSt W0 W0.heap.size s y (nrmT T) m c (.slice pin n cin) xs wr v H o O q K) ∧ Hid (Whl T K H O) ∧ Hid (K.all scaB = true)) (fun _ _ i _ => n - (intOf i).toNat)
    case atStart => exact ⟨0, _, _, _, [], Nat.zero_le _, rfl, Nat.le_refl _, HWS, HW0, rfl⟩
    case round =>
      obtain ⟨k, v, H, O, K, hk, rfl, hkl2, hws, hwl, hks⟩ := hrel
      have HEr := Lib.hid (HE.out.step hws.out.bel)
      by_cases hlt : k < n
      · have hkl : k < xs.length := by rw [HN.out]; exact hlt
        obtain ⟨g0, rfl, hck⟩ := hws.out.inn.get HN.out k hlt
        obtain ⟨z, hz⟩ : ∃ c, xs.getD k 0 = c := ⟨_, rfl⟩
        have hsc : scaB z = true := List.all_eq_true.1 HSX.out z (by rw [← hz]; simp [hkl])
        rw [hz] at hck
        have hlen := hwl.out.len
        have hpo := push_out (T := T) (m := m) (H := H) (z := z)
        have hpc : (∃ H' O', pushT T m H z = (H', O', 0)) ∨ pushT T m H z = (H, [], 7) := by
          rcases push_cases T m H z with ⟨h1, h2⟩ | ⟨h1, hB, h2⟩ | ⟨h1, hB, h3, h2⟩ | ⟨h1, hB, h3, h2⟩
          · rw [hsc] at h1; cases h1
          · exact .inl ⟨_, _, h2⟩
          · exact .inr h2
          · exact .inl ⟨_, _, h2⟩
        obtain ⟨no, hno⟩ : ∃ n, O.length = n := ⟨_, rfl⟩
        have hno2 : no ≤ 4096 := by rw [← hno]; exact hlen.2
        have HNO := Lib.hid hno
        have HSC := Lib.hid hsc
        clear hz hsc hlen hno hkl
        rcases hpc with ⟨H', O', hp⟩ | hp
        · rw [hp] at hpo
          simp only at hpo
          have hw2 := hwl.out.push HV.out (by omega) hks.out hp
          have HP : Hid (pushT (nrmT T) m H z = (H', O', 0)) := (nrm_push HV.out m H z).trans hp
          have HW2 := Lib.hid hw2
          obtain ⟨nu, hnu⟩ : ∃ n, O'.length = n := ⟨_, rfl⟩
          rw [hnu] at hpo
          have HNU := Lib.hid hnu
          have HKA : Hid ((K ++ [z]).all scaB = true) := by unfold Hid; rw [List.all_append, hks.out]; simpa using HSC.out
          clear hp hw2 hnu hwl hks
          go_wp2_with fail
          refine (push_at W0.heap.size s s y (nrmT T) m c v H z H' O' 0 _ hws.out.str (HR.out.below HEr.out.bel) hws.out.csz HP).mono ?_
          rintro e w5 ⟨u5, v5, rfl, hu5, hs5, hk5, ho5⟩
          have HKB := Lib.hid (fun b (e : u12.ownBlock = some b) => (World.ownsRow.lt hws.out.kep b e).2)
          have HW5 := Lib.hid (hws.out.push hk5 hs5 ho5)
          obtain ⟨pu, cu, eu, hiu⟩ := hu5.inn
          rw [HNU.out] at eu
          subst eu
          have hal : Below w5.heap.size w5 (w5.alloc (.cells #[.int .i64 z] 3)) := (Below.refl _ _).alloc (Nat.le_refl _) _
          have HW5a := Lib.hid (HW5.out.below hal)
          have HU5a := Lib.hid (hu5.below hal)
          obtain ⟨nh, hnh⟩ : ∃ n, H'.length = n := ⟨_, rfl⟩
          have hnm : nh ≤ m := by rw [← hnh]; exact hs5.len
          have HNH := Lib.hid hnh
          clear hu5 hs5 hk5 ho5 hiu hws hck hal hnh
          go_wp2_with (at_builtin; refine wpList_append_one _ _ rfl rfl c u12 K (by rfl) (by exact HW5a.out.kep) _ 1 z (by rfl) (by simp [World.cell?_alloc_new]) (by omega) (by exact HW5a.out.csz) ?_; intro q6 w6 hoq hgq hvq)
          have HW6 := Lib.hid (HW5a.out.appk hgq hoq hvq)
          have HU6 : Hid (Ints w6 wr.heap.size (.slice pu nu cu) O') := (Keeps.of_grown hgq).owns HU5a.out (fun b e r => by have e1 := HKB.out b r; have e2 := (World.ownsRow.lt HU5a.out b e).1; omega)
          clear hoq hgq hvq HW5 HW5a HU5a HKB
          have dg : decide ((m : Int) < (nh : Int)) = false := decide_eq_false (by omega)
          have dg2 : ¬ (m : Int) < (nh : Int) := by omega
          have dg3 : ¬ m < nh := by omega
          go_wp2_with fail
          refine (held_at W0.heap.size s s y (nrmT T) m c v5 H' nh _ HW6.out.str HNH).mono ?_
          rintro e w7 ⟨rfl, hb7⟩
          have HW7 := Lib.hid (HW6.out.below hb7)
          have HIU := Lib.hid (Ints.sli (HU6.out.below hb7))
          clear hb7 HW6 HU6
          go_wp2_with fail
          refine (pickN_at n2 3 j0 _ (by omega) (by omega) HJ).mono ?_
          rintro e wp ⟨rfl, rfl⟩
          go_wp2_with (at_builtin; refine wpList_append_ints_at _ _ rfl rfl c u11 O (by rfl) (by exact HW7.out.out) pu nu cu O' HNU.out (by rfl) (by exact HIU.out) (by rw [HNU.out, HNO.out]; omega) (by exact HW7.out.csz) ?_; intro o8 w8 ho8 hg8 hv8)
          have HW8 := Lib.hid (HW7.out.app hg8 ho8 hv8)
          clear ho8 hg8 hv8
          go_wp2
          go_roundw
          case rel => exact ⟨k + 1, v5, H', O ++ O', K ++ [z], by omega, by go_num, by simp; omega, HW8, HW2, HKA⟩
          case measure => simp [intOf]; omega
        · have HP : Hid (pushT (nrmT T) m H z = (H, [], 7)) := (nrm_push HV.out m H z).trans hp
          clear hp hpo
          go_wp2_with fail
          refine (push_at W0.heap.size s s y (nrmT T) m c v H z H [] 7 _ hws.out.str (HR.out.below HEr.out.bel) hws.out.csz HP).mono ?_
          rintro e w6 ⟨u5, v5, rfl, hu5, hs5, hk5, ho5⟩
          have HW6 := Lib.hid (hws.out.push hk5 hs5 ho5)
          obtain ⟨pu, cu, eu, hiu⟩ := hu5.inn
          obtain ⟨nu, hnu⟩ : ∃ n, ([] : List Int).length = n := ⟨_, rfl⟩
          obtain rfl : nu = 0 := by simpa using hnu.symm
          rw [hnu] at eu
          subst eu
          have HNU := Lib.hid hnu
          have HU6 := Lib.hid hu5
          obtain ⟨nh, hnh⟩ : ∃ n, H.length = n := ⟨_, rfl⟩
          have hnm : nh ≤ m := by rw [← hnh]; exact hs5.len
          have HNH := Lib.hid hnh
          clear hu5 hs5 hk5 ho5 hiu hws hck hnh hnu
          have dg : decide ((m : Int) < (nh : Int)) = false := decide_eq_false (by omega)
          have dg2 : ¬ (m : Int) < (nh : Int) := by omega
          have dg3 : ¬ m < nh := by omega
          go_wp2_with fail
          refine (held_at W0.heap.size s s y (nrmT T) m c v5 H nh _ HW6.out.str HNH).mono ?_
          rintro e w7 ⟨rfl, hb7⟩
          have HW7 := Lib.hid (HW6.out.below hb7)
          have HIU := Lib.hid (Ints.sli (HU6.out.below hb7))
          clear hb7 HW6 HU6
          go_wp2_with fail
          refine (pickN_at n2 3 j0 _ (by omega) (by omega) HJ).mono ?_
          rintro e wp ⟨rfl, rfl⟩
          go_wp2_with (at_builtin; refine wpList_append_ints_at _ _ rfl rfl c u11 O (by rfl) (by exact HW7.out.out) pu 0 cu [] HNU.out (by rfl) (by exact HIU.out) (by rw [HNU.out, HNO.out]; omega) (by exact HW7.out.csz) ?_; intro o8 w8 ho8 hg8 hv8)
          have HW8 := Lib.hid (HW7.out.app hg8 ho8 hv8)
          clear ho8 hg8 hv8
          rw [List.append_nil] at HW8
          go_wp2
          go_roundw
          case rel => exact ⟨k + 1, v5, H, O, K, by omega, by go_num, by omega, HW8, hwl, hks⟩
          case measure => simp [intOf]; omega
      · obtain rfl : k = n := by omega
        have hlen := hwl.out.len
        have hfin := hwl.out.fin HV.out (by omega) hks.out
        have HEX := Lib.hid (nfd_small (T := T) HV.out hks.out (by omega))
        obtain ⟨Oe, hOe⟩ : ∃ L, nfcL T H = L := ⟨_, rfl⟩
        obtain ⟨L, hL⟩ : ∃ L, nfcL T K = L := ⟨_, rfl⟩
        have hlo : Oe.length ≤ 4096 := by rw [← hOe]; exact nfcL_len T H
        have hll : L.length ≤ 4096 := by rw [← hL]; exact nfcL_len T K
        rw [hOe, hL] at hfin
        have HFIN := Lib.hid hfin
        have HL := Lib.hid hL
        have HLL : Hid (L.length ≤ 17592186043904) := by unfold Hid; omega
        have HOE : Hid (nfcL (nrmT T) H = Oe) := (nrm_nfcL HV.out H).trans hOe
        obtain ⟨nu, hnu⟩ : ∃ n, Oe.length = n := ⟨_, rfl⟩
        obtain ⟨no, hno⟩ : ∃ n, O.length = n := ⟨_, rfl⟩
        have hno2 : no ≤ 4096 := by rw [← hno]; exact hlen.2
        rw [hnu] at hlo
        have HNU := Lib.hid hnu
        have HNO := Lib.hid hno
        obtain ⟨pq, cq, eq, _⟩ := hws.out.kep.inn
        have hnf := fun W2 (h1 : TabV W2 x T) h2 => rnfc_at x T pq cq K 0 L W2 h1 HCAP.out h2 (by omega) HEX HL
        obtain ⟨nq, hnq⟩ : ∃ n, K.length = n := ⟨_, rfl⟩
        rw [hnq] at hnf eq
        subst eq
        have HNF := Lib.hid hnf
        have t1 : (L == L) = true := by simp
        clear hlen hfin hOe hL hll hnu hno hwl hnf HEX hnq
        go_wp2_with fail
        refine (end_at W0.heap.size s s y (nrmT T) m c v H Oe _ hws.out.str (HR.out.below HEr.out.bel) HOE).mono ?_
        rintro e w7 ⟨u7, v7, rfl, hu7, hs7, hk7, hv7⟩
        have HW7 := Lib.hid (hws.out.push (hk7.weak (fun _ _ e => .inl e)) hs7 (fun b _ hn e => hn (hv7 b e)))
        obtain ⟨pu, cu, eu, hiu⟩ := hu7.inn
        rw [HNU.out] at eu
        subst eu
        have HIU := Lib.hid hiu
        clear hu7 hs7 hk7 hv7 hiu hws
        go_wp2_with (at_builtin; refine wpList_append_ints_at _ _ rfl rfl c u11 O (by rfl) (by exact HW7.out.out) pu nu cu Oe HNU.out (by rfl) (by exact HIU.out) (by rw [HNU.out, HNO.out]; omega) (by exact HW7.out.csz) ?_
                     intro o8 w8 ho8 hg8 hv8
                     rw [HFIN.out] at ho8
                     have HW8 := Lib.hid (HW7.out.app hg8 ho8 hv8)
                     have HE8 := Lib.hid (HE.out.step HW8.out.bel)
                     obtain ⟨⟨k0, k1, k2, k3, k4, k5⟩, ⟨k6, k7, k8, k9, k10, k11⟩⟩ := HE8.out.box.load)
        clear ho8 hg8 hv8
        go_wp2_with fail
        refine (HNF.out _ HE8.out.tab HW8.out.kep.sli).mono ?_
        rintro e w9 ⟨v9, rfl, ho9, hb9⟩
        have HW9 := Lib.hid (HW8.out.below hb9)
        have HE9 := Lib.hid (HE8.out.step hb9)
        have HO9 := Lib.hid ho9
        clear ho9 hb9 k0 k1 k2 k3 k4 k5 k6 k7 k8 k9 k10 k11
        go_wp2_with fail
        refine (awake9_any _ (HR.out.below HE9.out.bel)).mono ?_
        rintro e wz ⟨rfl, hb⟩
        have HWz := Lib.hid (HW9.out.below hb)
        have HEz := Lib.hid (HE9.out.step hb)
        have HOz := Lib.hid (HO9.out.below hb)
        clear hb
        go_wp2_with fail
        refine (same_at o8 v9 L L true _ (HWz.out.out.inV HLL.out) (HOz.out.inV HLL.out) t1).mono ?_
        rintro e wy ⟨rfl, hb⟩
        have HZ := Lib.hid (HEz.out.step hb).bel
        clear hb
        go_wp2
        go_ret
        exact ⟨rfl, HZ.out⟩

end Go.Proofs.YtfmfifmmaihodaaGreatDoor
