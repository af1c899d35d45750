/-
  The walk of StreamWhole (genSW.py).
-/
import Derived.Test.YtfmfifmmaihodaaGreatDoorSvPkZX
set_option linter.unusedSimpArgs false
set_option linter.unusedVariables false
namespace Go.Proofs.YtfmfifmmaihodaaGreatDoor
open Go.RowKit
set_option linter.unusedVariables false

set_option maxRecDepth 100000 in
set_option maxHeartbeats 8000000 in
theorem streamWhole_walk (p0 : Option Addr) (cap0 : Nat) (zs0 : List Int) (p1 : Option Addr) (cap1 : Nat) (zs1 : List Int) (w : World) (hin0 : IntsIn w p0 zs0) (hl0 : zs0.length ≤ 17592186043904) (hin1 : IntsIn w p1 zs1) (hl1 : zs1.length ≤ 17592186043904) (hr : Rsv w) :
    Calls Tryz.prog 5 #[.slice p0 zs0.length cap0, .slice p1 zs1.length cap1] w (Gives (.bool true) w) := by
  have HI0 := Lib.hid hin0
  have HL0 := Lib.hid hl0
  have HI1 := Lib.hid hin1
  have HL1 := Lib.hid hl1
  have HR := Lib.hid hr
  clear hin0 hl0 hin1 hl1 hr
  go_enter Tryz.func5, Tryz.ntmps5
  go_wp2_with fail
  refine (tables_any p0 cap0 zs0 _ HI0.out HL0.out).mono ?_
  rintro e w1 ⟨⟨a0, a1, a2, a3, a4, a5, a6, a7, a8, a9, a10, a11⟩, T, rfl, htv, hm, hcap1, hb1⟩
  obtain ⟨pa0, na0, qa0, hsl0⟩ : Slc a0 := htv.cat.slc
  subst hsl0
  obtain ⟨pa1, na1, qa1, hsl1⟩ : Slc a1 := htv.cls.slc
  subst hsl1
  obtain ⟨pa2, na2, qa2, hsl2⟩ : Slc a2 := htv.joi.slc
  subst hsl2
  obtain ⟨pa3, na3, qa3, hsl3⟩ : Slc a3 := htv.bid.slc
  subst hsl3
  obtain ⟨pa4, na4, qa4, hsl4⟩ : Slc a4 := htv.scr.slc
  subst hsl4
  obtain ⟨pa5, na5, qa5, hsl5⟩ : Slc a5 := htv.sta.slc
  subst hsl5
  obtain ⟨pa6, na6, qa6, hsl6⟩ : Slc a6 := htv.ign.slc
  subst hsl6
  obtain ⟨pa7, na7, qa7, hsl7⟩ : Slc a7 := htv.ext.slc
  subst hsl7
  obtain ⟨pa8, na8, qa8, hsl8⟩ : Slc a8 := htv.map.slc
  subst hsl8
  obtain ⟨pa9, na9, qa9, hsl9⟩ : Slc a9 := htv.dec.slc
  subst hsl9
  obtain ⟨pa10, na10, qa10, hsl10⟩ : Slc a10 := htv.exc.slc
  subst hsl10
  obtain ⟨pa11, na11, qa11, hsl11⟩ : Slc a11 := htv.pro.slc
  subst hsl11
  have hba1 : Below w1.heap.size w1 (w1.alloc (.cells (tabCells ⟨.slice pa0 na0 qa0, .slice pa1 na1 qa1, .slice pa2 na2 qa2, .slice pa3 na3 qa3, .slice pa4 na4 qa4, .slice pa5 na5 qa5, .slice pa6 na6 qa6, .slice pa7 na7 qa7, .slice pa8 na8 qa8, .slice pa9 na9 qa9, .slice pa10 na10 qa10, .slice pa11 na11 qa11⟩) 26)) := (Below.refl _ _).alloc (Nat.le_refl _) _
  have HT1 : Hid (TabV (w1.alloc (.cells (tabCells ⟨.slice pa0 na0 qa0, .slice pa1 na1 qa1, .slice pa2 na2 qa2, .slice pa3 na3 qa3, .slice pa4 na4 qa4, .slice pa5 na5 qa5, .slice pa6 na6 qa6, .slice pa7 na7 qa7, .slice pa8 na8 qa8, .slice pa9 na9 qa9, .slice pa10 na10 qa10, .slice pa11 na11 qa11⟩) 26)) ⟨.slice pa0 na0 qa0, .slice pa1 na1 qa1, .slice pa2 na2 qa2, .slice pa3 na3 qa3, .slice pa4 na4 qa4, .slice pa5 na5 qa5, .slice pa6 na6 qa6, .slice pa7 na7 qa7, .slice pa8 na8 qa8, .slice pa9 na9 qa9, .slice pa10 na10 qa10, .slice pa11 na11 qa11⟩ T) := htv.below hba1
  have HX1 : Hid (BoxT (w1.alloc (.cells (tabCells ⟨.slice pa0 na0 qa0, .slice pa1 na1 qa1, .slice pa2 na2 qa2, .slice pa3 na3 qa3, .slice pa4 na4 qa4, .slice pa5 na5 qa5, .slice pa6 na6 qa6, .slice pa7 na7 qa7, .slice pa8 na8 qa8, .slice pa9 na9 qa9, .slice pa10 na10 qa10, .slice pa11 na11 qa11⟩) 26)) w1.heap.size ⟨.slice pa0 na0 qa0, .slice pa1 na1 qa1, .slice pa2 na2 qa2, .slice pa3 na3 qa3, .slice pa4 na4 qa4, .slice pa5 na5 qa5, .slice pa6 na6 qa6, .slice pa7 na7 qa7, .slice pa8 na8 qa8, .slice pa9 na9 qa9, .slice pa10 na10 qa10, .slice pa11 na11 qa11⟩) := BoxT.new _ _ _
  have HB1 : Hid (Below w.heap.size w (w1.alloc (.cells (tabCells ⟨.slice pa0 na0 qa0, .slice pa1 na1 qa1, .slice pa2 na2 qa2, .slice pa3 na3 qa3, .slice pa4 na4 qa4, .slice pa5 na5 qa5, .slice pa6 na6 qa6, .slice pa7 na7 qa7, .slice pa8 na8 qa8, .slice pa9 na9 qa9, .slice pa10 na10 qa10, .slice pa11 na11 qa11⟩) 26))) := hb1.trans (hba1.mono hb1.size)
  have HM := Lib.hid hm
  have HCAP : Hid (CapOf ⟨.slice pa0 na0 qa0, .slice pa1 na1 qa1, .slice pa2 na2 qa2, .slice pa3 na3 qa3, .slice pa4 na4 qa4, .slice pa5 na5 qa5, .slice pa6 na6 qa6, .slice pa7 na7 qa7, .slice pa8 na8 qa8, .slice pa9 na9 qa9, .slice pa10 na10 qa10, .slice pa11 na11 qa11⟩) := hcap1
  clear htv hm hcap1 hb1 hba1
  simp only [tabCells] at HT1 HX1 HB1
  go_upto_region 2 with (fail)
  generalize (w1.alloc (.cells #[.slice pa0 na0 qa0, .slice pa1 na1 qa1, .slice pa2 na2 qa2, .slice pa3 na3 qa3, .slice pa4 na4 qa4, .slice pa5 na5 qa5, .slice pa6 na6 qa6, .slice pa7 na7 qa7, .slice pa8 na8 qa8, .slice pa9 na9 qa9, .slice pa10 na10 qa10, .slice pa11 na11 qa11] 26)) = W at HT1 HX1 HB1 ⊢
  generalize w1.heap.size = g at HX1 ⊢
  generalize (⟨.slice pa0 na0 qa0, .slice pa1 na1 qa1, .slice pa2 na2 qa2, .slice pa3 na3 qa3, .slice pa4 na4 qa4, .slice pa5 na5 qa5, .slice pa6 na6 qa6, .slice pa7 na7 qa7, .slice pa8 na8 qa8, .slice pa9 na9 qa9, .slice pa10 na10 qa10, .slice pa11 na11 qa11⟩ : TV) = x at HT1 HX1 HCAP
  have HE : Hid (LEnv w g x T W) := ⟨HT1.out, HX1.out, HB1.out⟩
  clear HT1 HX1 HB1
  have HNE : Hid (newE T ((32 : Nat) : Int) = 0) := newE_mk HM.out.check (by omega) (by omega)
  obtain ⟨⟨k0, k1, k2, k3, k4, k5⟩, ⟨k6, k7, k8, k9, k10, k11⟩⟩ := HE.out.box.load
  go_wp2_with fail
  refine (new_at x T 32 _ HE.out.tab (HR.out.below HE.out.bel) HNE).mono ?_
  rintro e w2 ⟨s, y, rfl, hs, hz, hz2, hb⟩
  have HB2 := Lib.hid (HE.out.bel.trans (hb.mono HE.out.bel.size))
  have HS2 := Lib.hid hs
  have HZ2 := Lib.hid (show W.heap.size ≤ s ∧ w2.heap.size = s + 1 ∧ Below W.heap.size W w2 from ⟨hz, hz2, hb⟩)
  clear hs hz hz2 hb k0 k1 k2 k3 k4 k5 k6 k7 k8 k9 k10 k11
  go_wp2_with fail
  refine (dense9_any p1 cap1 zs1 _ (HI1.out.below HB2.out) HL1.out).mono ?_
  rintro e w3 ⟨xs, v3, rfl, hn3, hs3, hi3, hb3⟩
  obtain ⟨n, hn⟩ : ∃ n, xs.length = n := ⟨_, rfl⟩
  rw [hn] at hn3
  have HN := Lib.hid hn
  have HSX := Lib.hid hs3
  have HWS := Lib.hid (WSt.start HS2.out HZ2.out.1 HZ2.out.2.1 HZ2.out.2.2 hb3 hi3)
  have HSZ : Hid (W.heap.size ≤ w3.heap.size) := HWS.out.bel.size
  obtain ⟨pin, cin, ein, _⟩ := hi3.inn
  rw [hn] at ein
  subst ein
  generalize w3.heap.size = c at HWS HSZ
  generalize W.heap.size = lo at HWS
  clear hn hs3 hi3 hb3 HB2 HS2 HZ2
  have HV : Hid (checkT T = 0) := HM.out.check
  have HW0 : Hid (Whl T (xs.take 0) [] []) := Whl.start T HV.out
  go_wp2
  go_loopw [9, 33] (fun o i wr => ∃ (k : Nat) (v : Value) (H O : List Int), k ≤ n ∧ i = .int .i64 k ∧ Hid (WSt W lo s y (nrmT T) 32 c (.slice pin n cin) xs wr v H o O (.slice none 0 0) []) ∧ Hid (Whl T (xs.take k) H O)) (fun _ i _ => n - (intOf i).toNat)
  case atStart => exact ⟨0, _, _, _, Nat.zero_le _, rfl, HWS, HW0⟩
  case round =>
    obtain ⟨k, v, H, O, hk, rfl, hws, hwl⟩ := hrel
    have HEr := Lib.hid (HE.out.step hws.out.bel)
    by_cases hlt : k < n
    · have hkl : k < xs.length := by rw [HN.out]; exact hlt
      obtain ⟨g0, rfl, hck⟩ := hws.out.inn.get HN.out k hlt
      obtain ⟨z, hz⟩ : ∃ c, xs.getD k 0 = c := ⟨_, rfl⟩
      have hsc : scaB z = true := List.all_eq_true.1 HSX.out z (by rw [← hz]; simp [hkl])
      have htk := take_snoc_int xs k hkl
      rw [hz] at hck htk
      have hlen := hwl.out.len
      rw [List.length_take, HN.out] at hlen
      have hpe := push_ok (T := T) (m := 32) (H := H) hsc (by omega)
      have hpo := push_out (T := T) (m := 32) (H := H) (z := z)
      obtain ⟨⟨H', O', E⟩, hp⟩ : ∃ q, pushT T 32 H z = q := ⟨_, rfl⟩
      rw [hp] at hpe hpo
      simp only at hpe hpo
      subst hpe
      have hw2 := hwl.out.push HV.out (by rw [List.length_take, HN.out]; omega) (List.all_eq_true.2 (fun e he => List.all_eq_true.1 HSX.out e (List.mem_of_mem_take he))) hp
      rw [← htk] at hw2
      have HP : Hid (pushT (nrmT T) 32 H z = (H', O', 0)) := (nrm_push HV.out 32 H z).trans hp
      have HW2 := Lib.hid hw2
      obtain ⟨nu, hnu⟩ : ∃ n, O'.length = n := ⟨_, rfl⟩
      obtain ⟨no, hno⟩ : ∃ n, O.length = n := ⟨_, rfl⟩
      rw [hnu] at hpo
      have hno2 : no ≤ 4096 := by rw [← hno]; exact hlen.2
      have HNU := Lib.hid hnu
      have HNO := Lib.hid hno
      clear hz hsc htk hlen hp hw2 hnu hno hwl hkl
      go_wp2_with fail
      refine (push_at lo s s y (nrmT T) 32 c v H z H' O' 0 _ hws.out.str (HR.out.below HEr.out.bel) hws.out.csz HP).mono ?_
      rintro e w5 ⟨u5, v5, rfl, hu5, hs5, hk5, ho5⟩
      have HW5 := Lib.hid (hws.out.push hk5 hs5 ho5)
      obtain ⟨pu, cu, eu, hiu⟩ := hu5.inn
      rw [HNU.out] at eu
      subst eu
      have HIU := Lib.hid hiu
      clear hu5 hs5 hk5 ho5 hiu hws hck
      go_wp2_with (at_builtin; refine wpList_append_ints_at _ _ rfl rfl c u9 O (by rfl) (by exact HW5.out.out) pu nu cu O' HNU.out (by rfl) (by exact HIU.out) (by rw [HNU.out, HNO.out]; omega) (by exact HW5.out.csz) ?_; intro o6 w6 ho6 hg6 hv6)
      have HW6 := Lib.hid (HW5.out.app hg6 ho6 hv6)
      clear ho6 hg6 hv6
      go_wp2
      go_roundw
      case rel => exact ⟨k + 1, v5, H', O ++ O', by omega, by go_num, HW6, HW2⟩
      case measure => simp [intOf]; omega
    · obtain rfl : k = n := by omega
      have hlen := hwl.out.len
      have hfn := hwl.out
      rw [List.take_of_length_le (Nat.le_of_eq HN.out)] at hfn
      have hfin := hfn.fin HV.out (by rw [HN.out]; omega) HSX.out
      have HEX := Lib.hid (nfd_small (T := T) HV.out HSX.out (by rw [HN.out]; omega))
      obtain ⟨Oe, hOe⟩ : ∃ L, nfcL T H = L := ⟨_, rfl⟩
      obtain ⟨L, hL⟩ : ∃ L, nfcL T xs = L := ⟨_, rfl⟩
      have hlo : Oe.length ≤ 4096 := by rw [← hOe]; exact nfcL_len T H
      have hll : L.length ≤ 4096 := by rw [← hL]; exact nfcL_len T xs
      rw [hOe, hL] at hfin
      have HFIN := Lib.hid hfin
      have HL := Lib.hid hL
      have HLL : Hid (L.length ≤ 17592186043904) := by unfold Hid; omega
      have HOE : Hid (nfcL (nrmT T) H = Oe) := (nrm_nfcL HV.out H).trans hOe
      obtain ⟨nu, hnu⟩ : ∃ n, Oe.length = n := ⟨_, rfl⟩
      obtain ⟨no, hno⟩ : ∃ n, O.length = n := ⟨_, rfl⟩
      have hno2 : no ≤ 4096 := by rw [← hno]; exact hlen.2
      rw [hnu] at hlo
      have HNU := Lib.hid hnu
      have HNO := Lib.hid hno
      have hnf := fun W2 (h1 : TabV W2 x T) h2 => rnfc_at x T pin cin xs 0 L W2 h1 HCAP.out h2 (by rw [HN.out]; omega) HEX HL
      rw [HN.out] at hnf
      have HNF := Lib.hid hnf
      have t1 : (L == L) = true := by simp
      clear hlen hfn hfin hOe hL hll hnu hno hwl hnf HEX
      go_wp2_with fail
      refine (end_at lo s s y (nrmT T) 32 c v H Oe _ hws.out.str (HR.out.below HEr.out.bel) HOE).mono ?_
      rintro e w7 ⟨u7, v7, rfl, hu7, hs7, hk7, hv7⟩
      have HW7 := Lib.hid (hws.out.push (hk7.weak (fun _ _ e => .inl e)) hs7 (fun b _ hn e => hn (hv7 b e)))
      obtain ⟨pu, cu, eu, hiu⟩ := hu7.inn
      rw [HNU.out] at eu
      subst eu
      have HIU := Lib.hid hiu
      clear hu7 hs7 hk7 hv7 hiu hws
      go_wp2_with (at_builtin; refine wpList_append_ints_at _ _ rfl rfl c u9 O (by rfl) (by exact HW7.out.out) pu nu cu Oe HNU.out (by rfl) (by exact HIU.out) (by rw [HNU.out, HNO.out]; omega) (by exact HW7.out.csz) ?_
                   intro o8 w8 ho8 hg8 hv8
                   rw [HFIN.out] at ho8
                   have HW8 := Lib.hid (HW7.out.app hg8 ho8 hv8)
                   have HE8 := Lib.hid (HE.out.step HW8.out.bel)
                   obtain ⟨⟨k0, k1, k2, k3, k4, k5⟩, ⟨k6, k7, k8, k9, k10, k11⟩⟩ := HE8.out.box.load)
      clear ho8 hg8 hv8
      go_wp2_with fail
      refine (HNF.out _ HE8.out.tab HW8.out.inn.sli).mono ?_
      rintro e w9 ⟨v9, rfl, ho9, hb9⟩
      have HW9 := Lib.hid (HW8.out.below hb9)
      have HE9 := Lib.hid (HE8.out.step hb9)
      have HO9 := Lib.hid ho9
      clear ho9 hb9 k0 k1 k2 k3 k4 k5 k6 k7 k8 k9 k10 k11
      go_wp2_with fail
      refine (awake9_any _ (HR.out.below HE9.out.bel)).mono ?_
      rintro e wz ⟨rfl, hb⟩
      have HWz := Lib.hid (HW9.out.below hb)
      have HEz := Lib.hid (HE9.out.step hb)
      have HOz := Lib.hid (HO9.out.below hb)
      clear hb
      go_wp2_with fail
      refine (same_at o8 v9 L L true _ (HWz.out.out.inV HLL.out) (HOz.out.inV HLL.out) t1).mono ?_
      rintro e wy ⟨rfl, hb⟩
      have HZ := Lib.hid (HEz.out.step hb).bel
      clear hb
      go_wp2
      go_ret
      exact ⟨rfl, HZ.out⟩

end Go.Proofs.YtfmfifmmaihodaaGreatDoor
