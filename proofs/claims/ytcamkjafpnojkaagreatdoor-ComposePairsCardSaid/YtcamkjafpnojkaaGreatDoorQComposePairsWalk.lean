/-
  The walk of ComposePairs (genCW.py).
-/
import Derived.Test.YtcamkjafpnojkaaGreatDoorPkZU
import Derived.Test.YtcamkjafpnojkaaGreatDoorQTblQ
import Derived.Deep.RegionHeld3
set_option linter.unusedSimpArgs false
set_option linter.unusedVariables false
namespace Go.Proofs.YtcamkjafpnojkaaGreatDoor
open Go.RowKit
set_option linter.unusedVariables false

set_option maxRecDepth 100000 in
set_option maxHeartbeats 8000000 in
theorem composePairs_walk (p0 : Option Addr) (cap0 : Nat) (zs0 : List Int) (p1 : Option Addr) (cap1 : Nat) (zs1 : List Int) (n2 : Int) (n3 : Int) (w : World) (hin0 : IntsIn w p0 zs0) (hl0 : zs0.length ≤ 17592186043904) (hin1 : IntsIn w p1 zs1) (hl1 : zs1.length ≤ 17592186043904) (hw2 : wf64 n2) (hw3 : wf64 n3) (hr : Rsv w) :
    Calls Tryz.prog 4 #[.slice p0 zs0.length cap0, .slice p1 zs1.length cap1, .int .i64 n2, .int .i64 n3] w (Gives (.bool true) w) := by
  have HI0 := Lib.hid hin0
  have HL0 := Lib.hid hl0
  have HI1 := Lib.hid hin1
  have HL1 := Lib.hid hl1
  have HW2 : Hid (wf64 n2) := hw2
  have HW3 : Hid (wf64 n3) := hw3
  have HR := Lib.hid hr
  clear hin0 hl0 hin1 hl1 hw2 hw3 hr
  go_enter Tryz.func4, Tryz.ntmps4
  go_wp2_with fail
  refine (tables_any p0 cap0 zs0 _ HI0.out HL0.out).mono ?_
  rintro e w1 ⟨⟨a0, a1, a2, a3, a4, a5, a6, a7, a8, a9, a10, a11⟩, T, rfl, htv, hm, hcap1, hb1⟩
  obtain ⟨pa0, na0, qa0, hsl0⟩ : Slc a0 := htv.cat.slc
  subst hsl0
  obtain ⟨pa1, na1, qa1, hsl1⟩ : Slc a1 := htv.cls.slc
  subst hsl1
  obtain ⟨pa2, na2, qa2, hsl2⟩ : Slc a2 := htv.joi.slc
  subst hsl2
  obtain ⟨pa3, na3, qa3, hsl3⟩ : Slc a3 := htv.bid.slc
  subst hsl3
  obtain ⟨pa4, na4, qa4, hsl4⟩ : Slc a4 := htv.scr.slc
  subst hsl4
  obtain ⟨pa5, na5, qa5, hsl5⟩ : Slc a5 := htv.sta.slc
  subst hsl5
  obtain ⟨pa6, na6, qa6, hsl6⟩ : Slc a6 := htv.ign.slc
  subst hsl6
  obtain ⟨pa7, na7, qa7, hsl7⟩ : Slc a7 := htv.ext.slc
  subst hsl7
  obtain ⟨pa8, na8, qa8, hsl8⟩ : Slc a8 := htv.map.slc
  subst hsl8
  obtain ⟨pa9, na9, qa9, hsl9⟩ : Slc a9 := htv.dec.slc
  subst hsl9
  obtain ⟨pa10, na10, qa10, hsl10⟩ : Slc a10 := htv.exc.slc
  subst hsl10
  obtain ⟨pa11, na11, qa11, hsl11⟩ : Slc a11 := htv.pro.slc
  subst hsl11
  have hba1 : Below w1.heap.size w1 (w1.alloc (.cells (tabCells ⟨.slice pa0 na0 qa0, .slice pa1 na1 qa1, .slice pa2 na2 qa2, .slice pa3 na3 qa3, .slice pa4 na4 qa4, .slice pa5 na5 qa5, .slice pa6 na6 qa6, .slice pa7 na7 qa7, .slice pa8 na8 qa8, .slice pa9 na9 qa9, .slice pa10 na10 qa10, .slice pa11 na11 qa11⟩) 26)) := (Below.refl _ _).alloc (Nat.le_refl _) _
  have HT1 : Hid (TabV (w1.alloc (.cells (tabCells ⟨.slice pa0 na0 qa0, .slice pa1 na1 qa1, .slice pa2 na2 qa2, .slice pa3 na3 qa3, .slice pa4 na4 qa4, .slice pa5 na5 qa5, .slice pa6 na6 qa6, .slice pa7 na7 qa7, .slice pa8 na8 qa8, .slice pa9 na9 qa9, .slice pa10 na10 qa10, .slice pa11 na11 qa11⟩) 26)) ⟨.slice pa0 na0 qa0, .slice pa1 na1 qa1, .slice pa2 na2 qa2, .slice pa3 na3 qa3, .slice pa4 na4 qa4, .slice pa5 na5 qa5, .slice pa6 na6 qa6, .slice pa7 na7 qa7, .slice pa8 na8 qa8, .slice pa9 na9 qa9, .slice pa10 na10 qa10, .slice pa11 na11 qa11⟩ T) := htv.below hba1
  have HX1 : Hid (BoxT (w1.alloc (.cells (tabCells ⟨.slice pa0 na0 qa0, .slice pa1 na1 qa1, .slice pa2 na2 qa2, .slice pa3 na3 qa3, .slice pa4 na4 qa4, .slice pa5 na5 qa5, .slice pa6 na6 qa6, .slice pa7 na7 qa7, .slice pa8 na8 qa8, .slice pa9 na9 qa9, .slice pa10 na10 qa10, .slice pa11 na11 qa11⟩) 26)) w1.heap.size ⟨.slice pa0 na0 qa0, .slice pa1 na1 qa1, .slice pa2 na2 qa2, .slice pa3 na3 qa3, .slice pa4 na4 qa4, .slice pa5 na5 qa5, .slice pa6 na6 qa6, .slice pa7 na7 qa7, .slice pa8 na8 qa8, .slice pa9 na9 qa9, .slice pa10 na10 qa10, .slice pa11 na11 qa11⟩) := BoxT.new _ _ _
  have HB1 : Hid (Below w.heap.size w (w1.alloc (.cells (tabCells ⟨.slice pa0 na0 qa0, .slice pa1 na1 qa1, .slice pa2 na2 qa2, .slice pa3 na3 qa3, .slice pa4 na4 qa4, .slice pa5 na5 qa5, .slice pa6 na6 qa6, .slice pa7 na7 qa7, .slice pa8 na8 qa8, .slice pa9 na9 qa9, .slice pa10 na10 qa10, .slice pa11 na11 qa11⟩) 26))) := hb1.trans (hba1.mono hb1.size)
  have HM := Lib.hid hm
  have HCAP : Hid (CapOf ⟨.slice pa0 na0 qa0, .slice pa1 na1 qa1, .slice pa2 na2 qa2, .slice pa3 na3 qa3, .slice pa4 na4 qa4, .slice pa5 na5 qa5, .slice pa6 na6 qa6, .slice pa7 na7 qa7, .slice pa8 na8 qa8, .slice pa9 na9 qa9, .slice pa10 na10 qa10, .slice pa11 na11 qa11⟩) := hcap1
  clear htv hm hcap1 hb1 hba1
  simp only [tabCells] at HT1 HX1 HB1
  go_wp2_with fail
  generalize (w1.alloc (.cells #[.slice pa0 na0 qa0, .slice pa1 na1 qa1, .slice pa2 na2 qa2, .slice pa3 na3 qa3, .slice pa4 na4 qa4, .slice pa5 na5 qa5, .slice pa6 na6 qa6, .slice pa7 na7 qa7, .slice pa8 na8 qa8, .slice pa9 na9 qa9, .slice pa10 na10 qa10, .slice pa11 na11 qa11] 26)) = W at HT1 HX1 HB1 ⊢
  generalize w1.heap.size = g at HX1 ⊢
  generalize (⟨.slice pa0 na0 qa0, .slice pa1 na1 qa1, .slice pa2 na2 qa2, .slice pa3 na3 qa3, .slice pa4 na4 qa4, .slice pa5 na5 qa5, .slice pa6 na6 qa6, .slice pa7 na7 qa7, .slice pa8 na8 qa8, .slice pa9 na9 qa9, .slice pa10 na10 qa10, .slice pa11 na11 qa11⟩ : TV) = x at HT1 HX1 HCAP
  have HE : Hid (LEnv w g x T W) := ⟨HT1.out, HX1.out, HB1.out⟩
  clear HT1 HX1 HB1
  refine (dense_any p1 cap1 zs1 _ (HI1.out.below HE.out.bel) HL1.out).mono ?_
  rintro e wa ⟨xs, va, rfl, hna, hsa, hi, hb⟩
  obtain ⟨pa, ca, rfl, hia⟩ := hi.inn
  obtain ⟨P, hP⟩ : ∃ P, xs ++ [n2, n3] = P := ⟨_, rfl⟩
  obtain ⟨na, hnx⟩ : ∃ n, xs.length = n := ⟨_, rfl⟩
  obtain ⟨np, hnp⟩ : ∃ n, P.length = n := ⟨_, rfl⟩
  have HPP := Lib.hid hP
  have HPW : Hid (∀ c ∈ P, wf64 c) := by
    intro c hc
    rw [← hP] at hc
    rcases List.mem_append.1 hc with h | h
    · exact fin_wf (List.all_eq_true.1 hsa c h)
    · simp only [List.mem_cons, List.not_mem_nil, or_false] at h
      rcases h with rfl | rfl
      · exact HW2.out
      · exact HW3.out
  have hnpb : np ≤ 9 := by rw [← hnp, ← hP]; simp; omega
  have HLX : Hid (xs.length + [n2, n3].length ≤ 17592186043904) := by unfold Hid; simp; omega
  rw [hnx] at hi ⊢
  have HNX := Lib.hid hnx
  have HNP := Lib.hid hnp
  have HLI := Lib.hid (lit_ints wa #[.int .i64 n2, .int .i64 n3] [n2, n3] 3 rfl)
  have HOA : Hid (Ints (wa.alloc (.cells #[.int .i64 n2, .int .i64 n3] 3)) W.heap.size (.slice pa na ca) xs) := Ints.alloc hi _
  have HBA := Lib.hid (hb.alloc hb.size (.cells #[.int .i64 n2, .int .i64 n3] 3))
  clear hna hsa hi hb hia hP hnx hnp
  go_wp2_with (at_builtin; (refine wpList_append_ints _ _ rfl rfl W.heap.size (.slice pa na ca) xs rfl HOA.out (some ⟨wa.heap.size, 0, none⟩) 2 2 [n2, n3] rfl rfl HLI.out HLX.out HBA.out.size ?_); intro v4 w4 ho4 hg4; rw [HPP.out] at ho4; have HB4 : Hid (Below W.heap.size W w4) := below_appI HBA.out HOA.out (Nat.le_refl _) hg4; obtain ⟨pP, cP, e4, hi4⟩ := ho4.inn; rw [HNP.out] at e4; subst e4)
  replace HE := Lib.hid (HE.out.step HB4.out)
  have HP := Lib.hid hi4
  clear ho4 hg4 hi4 HB4 HBA HOA HLI HLX HPP HNX
  go_wp2
  go_loopw [29] (fun i wr => ∃ k : Nat, k ≤ np ∧ i = .int .i64 k ∧ Hid (LEnv w g x T wr) ∧ Hid (IntsIn wr pP P)) (fun i _ => np - (intOf i).toNat)
  case atStart => exact ⟨0, Nat.zero_le _, rfl, HE, HP⟩
  case round =>
    obtain ⟨k, hk, rfl, he, hp⟩ := hrel
    clear HE HP
    by_cases hlt : k < np
    · have hkl : k < P.length := by rw [HNP.out]; exact hlt
      obtain ⟨b, off, rfl, hck⟩ := hp.out k hkl
      obtain ⟨c, hc⟩ : ∃ c, P.getD k 0 = c := ⟨_, rfl⟩
      rw [hc] at hck
      have HCW : Hid (wf64 c) := HPW.out c (by rw [← hc]; simp [hkl])
      obtain ⟨o, ho⟩ : ∃ o, Hid (secT T c = o) := ⟨_, rfl⟩
      have HS1 := Lib.hid (fun W (h1 : TabV W x T) h2 => second_at x T c o W h1 h2 HCW.out ho)
      have HS2 := Lib.hid (fun W (h1 : TabV W x T) => rsecond_at x T c o W h1 HCAP.out ho)
      have doo : (o != o) = false := by simp
      clear hc
      go_upto_region 6 with (fail)
      have e0 := he.out.step (drew_one wr)
      have HE0 := Lib.hid e0
      obtain ⟨⟨k0, k1, k2, k3, k4, k5⟩, ⟨k6, k7, k8, k9, k10, k11⟩⟩ := he.out.box.load
      clear e0
      go_cut [39] (fun v wx => v = .bool false ∧ Hid (LEnv w g x T wx) ∧ Hid (IntsIn wx (some ⟨b, off, none⟩) P))
      case first =>
        go_region_held3 (boxF g x)
          (first
            | exact HE0.out.box.flat
            | exact (HE0.out.step hb3).box.flat
            | exact ((HE0.out.step hb3).step hb4).box.flat)
          (first
            | (go_at_call 16; (with_reducible refine (HS1.out _ HE0.out.tab (HR.out.below HE0.out.bel)).mono ?_); rintro e w3 ⟨rfl, hb3⟩)
            | (go_at_call 17; (with_reducible refine (HS2.out _ (HE0.out.step hb3).tab).mono ?_); rintro e w4 ⟨rfl, hb4⟩)
            | fail)
        all_goals
          have hf := ((HE0.out.step hb3).step hb4)
          have hp2 := ((hp.out.below (drew_one wr)).below hb3).below hb4
          try (go_wp2_with fail)
          go_meet
          exact ⟨by simp, hf, hp2⟩
      case rest =>
        obtain ⟨rfl, HE5, HP5⟩ := hcut
        generalize wc = W5 at HE5 HP5 ⊢
        clear he hp HE0 k0 k1 k2 k3 k4 k5 k6 k7 k8 k9 k10 k11 hck
        go_wp2
        go_loopw [42] (fun j wr => ∃ q : Nat, q ≤ np ∧ j = .int .i64 q ∧ Hid (LEnv w g x T wr) ∧ Hid (IntsIn wr (some ⟨b, off, none⟩) P)) (fun j _ => np - (intOf j).toNat)
        case atStart => exact ⟨0, Nat.zero_le _, rfl, HE5, HP5⟩
        case round =>
          obtain ⟨q, hq, rfl, he6, hp6⟩ := hrel
          clear HE5 HP5
          by_cases hqt : q < np
          · have hql : q < P.length := by rw [HNP.out]; exact hqt
            obtain ⟨b2, off2, e2, hdk⟩ := hp6.out q hql
            injection e2 with e2
            injection e2 with e3 e4
            subst e3 e4
            obtain ⟨d, hd⟩ : ∃ d, P.getD q 0 = d := ⟨_, rfl⟩
            rw [hd] at hdk
            have HDW : Hid (wf64 d) := HPW.out d (by rw [← hd]; simp [hql])
            obtain ⟨⟨pp, oo⟩, hpo⟩ : ∃ y, Hid (pairT T c d = y) := ⟨_, rfl⟩
            have HP1 := Lib.hid (fun W (h1 : TabV W x T) h2 => pair_at x T c d pp oo W h1 h2 HCW.out HDW.out hpo)
            have HP2 := Lib.hid (fun W (h1 : TabV W x T) => rpair_at x T c d pp oo W h1 HCAP.out hpo)
            have d1 : (pp != pp) = false := by simp
            have d2 : (oo != oo) = false := by simp
            clear hd
            obtain ⟨⟨k0, k1, k2, k3, k4, k5⟩, ⟨k6, k7, k8, k9, k10, k11⟩⟩ := he6.out.box.load
            go_wp2_with fail
            refine (HP1.out _ he6.out.tab (HR.out.below he6.out.bel)).mono ?_
            rintro e w7 ⟨rfl, hb⟩
            replace he6 := Lib.hid (he6.out.step hb)
            replace hp6 := Lib.hid (hp6.out.below hb)
            clear hb hdk k0 k1 k2 k3 k4 k5 k6 k7 k8 k9 k10 k11
            obtain ⟨⟨k0, k1, k2, k3, k4, k5⟩, ⟨k6, k7, k8, k9, k10, k11⟩⟩ := he6.out.box.load
            go_wp2_with fail
            refine (HP2.out _ he6.out.tab).mono ?_
            rintro e w8 ⟨rfl, hb⟩
            replace he6 := Lib.hid (he6.out.step hb)
            replace hp6 := Lib.hid (hp6.out.below hb)
            clear hb k0 k1 k2 k3 k4 k5 k6 k7 k8 k9 k10 k11
            go_wp2
            go_roundw
            case rel => exact ⟨q + 1, by omega, by go_num, he6, hp6⟩
            case measure => simp [intOf]; omega
          · obtain rfl : q = np := by omega
            go_wp2
            go_roundw
            case rel => exact ⟨k + 1, by omega, by go_num, he6, hp6⟩
            case measure => simp [intOf]; omega
    · obtain rfl : k = np := by omega
      go_wp2_with fail
      refine (awake8_any _ (HR.out.below he.out.bel)).mono ?_
      rintro e w7 ⟨rfl, hb⟩
      have HB := Lib.hid (he.out.step hb).bel
      clear hb
      go_wp2
      go_ret
      exact ⟨rfl, HB.out⟩

end Go.Proofs.YtcamkjafpnojkaaGreatDoor
