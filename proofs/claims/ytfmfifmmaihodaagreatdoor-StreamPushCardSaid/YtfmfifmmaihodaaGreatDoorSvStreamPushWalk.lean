/-
  The walk of StreamPush (genSW.py).
-/
import Derived.Test.YtfmfifmmaihodaaGreatDoorSvPkZX
set_option linter.unusedSimpArgs false
set_option linter.unusedVariables false
namespace Go.Proofs.YtfmfifmmaihodaaGreatDoor
open Go.RowKit
set_option linter.unusedVariables false

set_option maxRecDepth 100000 in
set_option maxHeartbeats 8000000 in
theorem streamPush_walk (p0 : Option Addr) (cap0 : Nat) (zs0 : List Int) (p1 : Option Addr) (cap1 : Nat) (zs1 : List Int) (n2 : Int) (n3 : Int) (w : World) (hin0 : IntsIn w p0 zs0) (hl0 : zs0.length ≤ 17592186043904) (hin1 : IntsIn w p1 zs1) (hl1 : zs1.length ≤ 17592186043904) (hr : Rsv w) :
    Calls Tryz.prog 4 #[.slice p0 zs0.length cap0, .slice p1 zs1.length cap1, .int .i64 n2, .int .i64 n3] w (Gives (.bool true) w) := by
  have HI0 := Lib.hid hin0
  have HL0 := Lib.hid hl0
  have HI1 := Lib.hid hin1
  have HL1 := Lib.hid hl1
  have HR := Lib.hid hr
  clear hin0 hl0 hin1 hl1 hr
  go_enter Tryz.func4, Tryz.ntmps4
  go_wp2_with fail
  refine (tables_any p0 cap0 zs0 _ HI0.out HL0.out).mono ?_
  rintro e w1 ⟨⟨a0, a1, a2, a3, a4, a5, a6, a7, a8, a9, a10, a11⟩, T, rfl, htv, hm, hcap1, hb1⟩
  obtain ⟨pa0, na0, qa0, hsl0⟩ : Slc a0 := htv.cat.slc
  subst hsl0
  obtain ⟨pa1, na1, qa1, hsl1⟩ : Slc a1 := htv.cls.slc
  subst hsl1
  obtain ⟨pa2, na2, qa2, hsl2⟩ : Slc a2 := htv.joi.slc
  subst hsl2
  obtain ⟨pa3, na3, qa3, hsl3⟩ : Slc a3 := htv.bid.slc
  subst hsl3
  obtain ⟨pa4, na4, qa4, hsl4⟩ : Slc a4 := htv.scr.slc
  subst hsl4
  obtain ⟨pa5, na5, qa5, hsl5⟩ : Slc a5 := htv.sta.slc
  subst hsl5
  obtain ⟨pa6, na6, qa6, hsl6⟩ : Slc a6 := htv.ign.slc
  subst hsl6
  obtain ⟨pa7, na7, qa7, hsl7⟩ : Slc a7 := htv.ext.slc
  subst hsl7
  obtain ⟨pa8, na8, qa8, hsl8⟩ : Slc a8 := htv.map.slc
  subst hsl8
  obtain ⟨pa9, na9, qa9, hsl9⟩ : Slc a9 := htv.dec.slc
  subst hsl9
  obtain ⟨pa10, na10, qa10, hsl10⟩ : Slc a10 := htv.exc.slc
  subst hsl10
  obtain ⟨pa11, na11, qa11, hsl11⟩ : Slc a11 := htv.pro.slc
  subst hsl11
  have hba1 : Below w1.heap.size w1 (w1.alloc (.cells (tabCells ⟨.slice pa0 na0 qa0, .slice pa1 na1 qa1, .slice pa2 na2 qa2, .slice pa3 na3 qa3, .slice pa4 na4 qa4, .slice pa5 na5 qa5, .slice pa6 na6 qa6, .slice pa7 na7 qa7, .slice pa8 na8 qa8, .slice pa9 na9 qa9, .slice pa10 na10 qa10, .slice pa11 na11 qa11⟩) 26)) := (Below.refl _ _).alloc (Nat.le_refl _) _
  have HT1 : Hid (TabV (w1.alloc (.cells (tabCells ⟨.slice pa0 na0 qa0, .slice pa1 na1 qa1, .slice pa2 na2 qa2, .slice pa3 na3 qa3, .slice pa4 na4 qa4, .slice pa5 na5 qa5, .slice pa6 na6 qa6, .slice pa7 na7 qa7, .slice pa8 na8 qa8, .slice pa9 na9 qa9, .slice pa10 na10 qa10, .slice pa11 na11 qa11⟩) 26)) ⟨.slice pa0 na0 qa0, .slice pa1 na1 qa1, .slice pa2 na2 qa2, .slice pa3 na3 qa3, .slice pa4 na4 qa4, .slice pa5 na5 qa5, .slice pa6 na6 qa6, .slice pa7 na7 qa7, .slice pa8 na8 qa8, .slice pa9 na9 qa9, .slice pa10 na10 qa10, .slice pa11 na11 qa11⟩ T) := htv.below hba1
  have HX1 : Hid (BoxT (w1.alloc (.cells (tabCells ⟨.slice pa0 na0 qa0, .slice pa1 na1 qa1, .slice pa2 na2 qa2, .slice pa3 na3 qa3, .slice pa4 na4 qa4, .slice pa5 na5 qa5, .slice pa6 na6 qa6, .slice pa7 na7 qa7, .slice pa8 na8 qa8, .slice pa9 na9 qa9, .slice pa10 na10 qa10, .slice pa11 na11 qa11⟩) 26)) w1.heap.size ⟨.slice pa0 na0 qa0, .slice pa1 na1 qa1, .slice pa2 na2 qa2, .slice pa3 na3 qa3, .slice pa4 na4 qa4, .slice pa5 na5 qa5, .slice pa6 na6 qa6, .slice pa7 na7 qa7, .slice pa8 na8 qa8, .slice pa9 na9 qa9, .slice pa10 na10 qa10, .slice pa11 na11 qa11⟩) := BoxT.new _ _ _
  have HB1 : Hid (Below w.heap.size w (w1.alloc (.cells (tabCells ⟨.slice pa0 na0 qa0, .slice pa1 na1 qa1, .slice pa2 na2 qa2, .slice pa3 na3 qa3, .slice pa4 na4 qa4, .slice pa5 na5 qa5, .slice pa6 na6 qa6, .slice pa7 na7 qa7, .slice pa8 na8 qa8, .slice pa9 na9 qa9, .slice pa10 na10 qa10, .slice pa11 na11 qa11⟩) 26))) := hb1.trans (hba1.mono hb1.size)
  have HM := Lib.hid hm
  have HCAP : Hid (CapOf ⟨.slice pa0 na0 qa0, .slice pa1 na1 qa1, .slice pa2 na2 qa2, .slice pa3 na3 qa3, .slice pa4 na4 qa4, .slice pa5 na5 qa5, .slice pa6 na6 qa6, .slice pa7 na7 qa7, .slice pa8 na8 qa8, .slice pa9 na9 qa9, .slice pa10 na10 qa10, .slice pa11 na11 qa11⟩) := hcap1
  clear htv hm hcap1 hb1 hba1
  simp only [tabCells] at HT1 HX1 HB1
  go_upto_region 2 with (fail)
  generalize (w1.alloc (.cells #[.slice pa0 na0 qa0, .slice pa1 na1 qa1, .slice pa2 na2 qa2, .slice pa3 na3 qa3, .slice pa4 na4 qa4, .slice pa5 na5 qa5, .slice pa6 na6 qa6, .slice pa7 na7 qa7, .slice pa8 na8 qa8, .slice pa9 na9 qa9, .slice pa10 na10 qa10, .slice pa11 na11 qa11] 26)) = W at HT1 HX1 HB1 ⊢
  generalize w1.heap.size = g at HX1 ⊢
  generalize (⟨.slice pa0 na0 qa0, .slice pa1 na1 qa1, .slice pa2 na2 qa2, .slice pa3 na3 qa3, .slice pa4 na4 qa4, .slice pa5 na5 qa5, .slice pa6 na6 qa6, .slice pa7 na7 qa7, .slice pa8 na8 qa8, .slice pa9 na9 qa9, .slice pa10 na10 qa10, .slice pa11 na11 qa11⟩ : TV) = x at HT1 HX1 HCAP
  have HE : Hid (LEnv w g x T W) := ⟨HT1.out, HX1.out, HB1.out⟩
  clear HT1 HX1 HB1
  obtain ⟨j0, HJ0, hj⟩ := pickN_nm n2 8 (by omega)
  have HJ : Hid (pickS n2 8 = (j0 : Int)) := HJ0
  clear HJ0
  obtain ⟨m, hm⟩ : ∃ m : Nat, j0 + 1 = m := ⟨_, rfl⟩
  have hm1 : 1 ≤ m := by omega
  have hm3 : m ≤ 8 := by omega
  have hw1 : IntKind.i64.wrap (1 + (j0 : Int)) = (m : Int) := by rw [IntWalk.i64_in _ (by omega)]; omega
  have hw2 : (1 : Int) + (j0 : Int) = (m : Int) := by omega
  have hw3 : IntKind.i64.wrap (m : Int) = (m : Int) := IntWalk.i64_in _ (by omega)
  have HV : Hid (checkT T = 0) := HM.out.check
  have HNE : Hid (newE T (m : Int) = 0) := newE_mk HV.out (by omega) (by omega)
  clear hm
  go_wp2_with fail
  refine (pickN_at n2 8 j0 _ (by omega) (by omega) HJ).mono ?_
  rintro e wp ⟨rfl, rfl⟩
  clear HJ
  obtain ⟨⟨k0, k1, k2, k3, k4, k5⟩, ⟨k6, k7, k8, k9, k10, k11⟩⟩ := HE.out.box.load
  go_wp2_with fail
  refine (new_at x T m _ HE.out.tab (HR.out.below HE.out.bel) HNE).mono ?_
  rintro e w1x ⟨sa, y, rfl, hsa, hz, hz2, hb⟩
  have HSA := Lib.hid hsa
  have HZA := Lib.hid (show W.heap.size ≤ sa ∧ w1x.heap.size = sa + 1 ∧ Below W.heap.size W w1x from ⟨hz, hz2, hb⟩)
  have HE1 := Lib.hid (HE.out.step hb)
  have HTP := Lib.hid ((TabP.of_tab (P := rows 0 W.heap.size) HE.out.tab (fun k hk => ⟨Nat.zero_le _, hk⟩)).below hb)
  clear hsa hz hz2 hb k0 k1 k2 k3 k4 k5 k6 k7 k8 k9 k10 k11 hw1 hw2
  obtain ⟨⟨k0, k1, k2, k3, k4, k5⟩, ⟨k6, k7, k8, k9, k10, k11⟩⟩ := HE1.out.box.load
  go_wp2_with fail
  refine (rnew_at 0 W.heap.size x T m _ HTP.out HZA.out.2.2.size HCAP.out HNE).mono ?_
  rintro e w2 ⟨sb, rfl, hsb, hy, hy2, hb⟩
  have HSB := Lib.hid hsb
  have HZB := Lib.hid (show w1x.heap.size ≤ sb ∧ w2.heap.size = sb + 1 ∧ Below w1x.heap.size w1x w2 from ⟨hy, hy2, hb⟩)
  have HE2 := Lib.hid (HE1.out.step hb)
  clear hsb hy hy2 hb k0 k1 k2 k3 k4 k5 k6 k7 k8 k9 k10 k11 HTP
  go_wp2_with fail
  refine (dense9_any p1 cap1 zs1 _ (HI1.out.below HE2.out.bel) HL1.out).mono ?_
  rintro e w3 ⟨xs, v3, rfl, hn3, hs3, hi3, hb3⟩
  have hba : Below w3.heap.size w3 (w3.alloc (.cells #[.int .i64 n3] 3)) := (Below.refl _ _).alloc (Nat.le_refl _) _
  have HA3 : Hid (Ints (w3.alloc (.cells #[.int .i64 n3] 3)) w2.heap.size v3 xs) := hi3.below hba
  have HB3 := Lib.hid (hb3.trans (hba.mono hb3.size))
  clear hi3 hb3 hba hs3
  go_wp2_with (at_builtin; refine wpList_append_one _ _ rfl rfl w2.heap.size v3 xs (by rfl) (by exact HA3.out) _ 1 n3 (by rfl) (by simp [World.cell?_alloc_new]) (by omega) (by exact HB3.out.size) ?_; intro v4 w4 ho4 hg4 hv4)
  have hb4 : Below w2.heap.size w2 w4 := below_appI HB3.out HA3.out (Nat.le_refl _) hg4
  have HPS := Lib.hid (TwS.start HSA.out HZA.out.1 HZA.out.2.1 HZA.out.2.2 HSB.out HZB.out.1 HZB.out.2.1 HZB.out.2.2 hb4 ho4)
  obtain ⟨X, hX⟩ : ∃ X, xs ++ [n3] = X := ⟨_, rfl⟩
  rw [hX] at ho4 HPS
  obtain ⟨n, hn⟩ : ∃ n, X.length = n := ⟨_, rfl⟩
  have hn16 : n ≤ 16 := by rw [← hn, ← hX]; simp; omega
  have HN := Lib.hid hn
  obtain ⟨pin, cin, ein, _⟩ := ho4.inn
  rw [hn] at ein
  subst ein
  generalize w4.heap.size = c at HPS
  clear hX hn ho4 hg4 hv4 hb4 HA3 HB3 HSA HZA HSB HZB HE1 HE2
  go_wp2
  go_simp
  go_wp2
  go_loopw [56] (fun i wr => ∃ (k : Nat) (va vb : Value) (H : List Int), k ≤ n ∧ i = .int .i64 k ∧ Hid (TwS W sa sb y x (nrmT T) T m c (.slice pin n cin) X wr va vb H H)) (fun i _ => n - (intOf i).toNat)
  case atStart => exact ⟨0, _, _, _, Nat.zero_le _, rfl, HPS⟩
  case round =>
    obtain ⟨k, va, vb, H, hk, rfl, hps⟩ := hrel
    have HEr := Lib.hid (HE.out.step hps.out.bel)
    by_cases hlt : k < n
    · obtain ⟨g0, rfl, hck⟩ := hps.out.inn.get HN.out k hlt
      obtain ⟨z, hz⟩ : ∃ c, X.getD k 0 = c := ⟨_, rfl⟩
      rw [hz] at hck
      have hpo := push_out (T := T) (m := m) (H := H) (z := z)
      obtain ⟨⟨H', O', E⟩, hp⟩ : ∃ q, pushT T m H z = q := ⟨_, rfl⟩
      rw [hp] at hpo
      simp only at hpo
      have HP1 : Hid (pushT (nrmT T) m H z = (H', O', E)) := (nrm_push HV.out m H z).trans hp
      have HP2 := Lib.hid hp
      have HOL : Hid (O'.length ≤ 17592186043904) := by unfold Hid; omega
      clear hz hp hpo
      go_wp2_with fail
      refine (push_at W.heap.size sa sa y (nrmT T) m c va H z H' O' E _ hps.out.sta (HR.out.below HEr.out.bel) hps.out.csz HP1).mono ?_
      rintro e w5 ⟨u5, va5, rfl, hu5, hs5, hk5, ho5⟩
      have HVB := Lib.hid hps.out.stb.hlt
      have HSBL : Hid (sb < wr.heap.size) := hps.out.stb.lt
      have HP5 := Lib.hid (hps.out.pushA hk5 hs5 ho5)
      have HU5 := Lib.hid hu5
      clear hu5 hs5 hk5 ho5 hps hck
      go_wp2_with fail
      refine (rpush_at 0 W.heap.size sb x T m c vb H z H' O' E _ HP5.out.stb HCAP.out HP5.out.csz HP2).mono ?_
      rintro e w6 ⟨u6, vb6, rfl, hu6, hs6, hk6, ho6⟩
      have HP6 := Lib.hid (HP5.out.pushB hk6 hs6 ho6)
      have HU6 := Lib.hid hu6
      have HU5b : Hid (Ints w6 wr.heap.size u5 O') := hk6.owns HU5.out (fun b e r => by
        have e1 := (World.ownsRow.lt HU5.out b e).1
        rcases r with r | r
        · have := HSBL.out; omega
        · have := (HVB.out b r).2; omega)
      clear hu6 hs6 hk6 ho6 HP5 HVB HSBL HU5
      have t1 : (O' == O') = true := by simp
      have t2 : (E != E) = false := by simp
      go_wp2_with fail
      refine (same_at u5 u6 O' O' true _ (HU5b.out.inV HOL.out) (HU6.out.inV HOL.out) t1).mono ?_
      rintro e w7 ⟨rfl, hb7⟩
      have HP7 := Lib.hid (HP6.out.below hb7)
      clear hb7 HP6 HU5b HU6
      obtain ⟨nh, hnh⟩ : ∃ n, Hid (H'.length = n) := ⟨_, rfl⟩
      go_wp2_with fail
      refine (held_at W.heap.size sa sa y (nrmT T) m c va5 H' nh _ HP7.out.sta hnh).mono ?_
      rintro e w8 ⟨rfl, hb8⟩
      have HP8 := Lib.hid (HP7.out.below hb8)
      clear hb8 HP7
      go_wp2_with fail
      refine (rheld_at 0 W.heap.size sb x T m c vb6 H' nh _ HP8.out.stb hnh).mono ?_
      rintro e w9 ⟨rfl, hb9⟩
      have HP9 := Lib.hid (HP8.out.below hb9)
      clear hb9 HP8
      have t3 : ((nh : Int) != (nh : Int)) = false := by simp
      obtain ⟨rk, hrk⟩ : ∃ r, IntKind.i64.wrap (n3 + (k : Int)) = r := ⟨_, rfl⟩
      obtain ⟨q, HQ0, hq⟩ := pickN_nm rk 9 (by omega)
      have HQ : Hid (pickS rk 9 = (q : Int)) := HQ0
      clear HQ0
      go_wp2_with fail
      refine (pickN_at rk 9 q _ (by omega) (by omega) HQ).mono ?_
      rintro e wp ⟨rfl, rfl⟩
      clear hrk HQ t2 t3
      by_cases hq0 : q = 0
      · have dq : ((q : Int) == 0) = true := by simp; omega
        obtain ⟨Oe, hOe⟩ : ∃ L, nfcL T H' = L := ⟨_, rfl⟩
        have HOE1 : Hid (nfcL (nrmT T) H' = Oe) := (nrm_nfcL HV.out H').trans hOe
        have HOE2 := Lib.hid hOe
        have HOEL : Hid (Oe.length ≤ 17592186043904) := by unfold Hid; rw [← hOe]; have := nfcL_len T H'; omega
        have t4 : (Oe == Oe) = true := by simp
        have HE9 := Lib.hid (HE.out.step HP9.out.bel)
        clear hOe hq0
        go_wp2_with fail
        refine (end_at W.heap.size sa sa y (nrmT T) m c va5 H' Oe _ HP9.out.sta (HR.out.below HE9.out.bel) HOE1).mono ?_
        rintro e w10 ⟨u10, va10, rfl, hu10, hs10, hk10, hv10⟩
        have HVB := Lib.hid HP9.out.stb.hlt
        have HSBL : Hid (sb < w9.heap.size) := HP9.out.stb.lt
        have HP10 := Lib.hid (HP9.out.pushA (hk10.weak (fun _ _ e => .inl e)) hs10 (fun b _ hn e => hn (hv10 b e)))
        have HU10 := Lib.hid hu10
        clear hu10 hs10 hk10 hv10 HP9
        go_wp2_with fail
        refine (rend_at 0 W.heap.size sb x T m c vb6 H' Oe _ HP10.out.stb HCAP.out HOE2).mono ?_
        rintro e w11 ⟨u11, vb11, rfl, hu11, hs11, hk11, hv11⟩
        have HP11 := Lib.hid (HP10.out.pushB (hk11.weak (fun _ _ e => .inl e)) hs11 (fun b _ hn e => hn (hv11 b e)))
        have HU11 := Lib.hid hu11
        have HU10b : Hid (Ints w11 w9.heap.size u10 Oe) := hk11.owns HU10.out (fun b e r => by
          have e1 := (World.ownsRow.lt HU10.out b e).1
          have := HSBL.out
          omega)
        clear hu11 hs11 hk11 hv11 HP10 HVB HSBL HU10
        go_wp2_with fail
        refine (same_at u10 u11 Oe Oe true _ (HU10b.out.inV HOEL.out) (HU11.out.inV HOEL.out) t4).mono ?_
        rintro e w12 ⟨rfl, hb12⟩
        have HP12 := Lib.hid (HP11.out.below hb12)
        clear hb12 HP11
        go_wp2
        go_roundw
        case rel => exact ⟨k + 1, va10, vb11, [], by omega, by go_num, HP12⟩
        case measure => simp [intOf]; omega
      · have dq : ((q : Int) == 0) = false := by simp; omega
        clear hq0
        go_wp2
        go_roundw
        case rel => exact ⟨k + 1, va5, vb6, H', by omega, by go_num, HP9⟩
        case measure => simp [intOf]; omega
    · obtain rfl : k = n := by omega
      obtain ⟨Oe, hOe⟩ : ∃ L, nfcL T H = L := ⟨_, rfl⟩
      have HOE1 : Hid (nfcL (nrmT T) H = Oe) := (nrm_nfcL HV.out H).trans hOe
      have HOE2 := Lib.hid hOe
      have HOEL : Hid (Oe.length ≤ 17592186043904) := by unfold Hid; rw [← hOe]; have := nfcL_len T H; omega
      have t4 : (Oe == Oe) = true := by simp
      clear hOe
      go_wp2_with fail
      refine (awake9_any _ (HR.out.below HEr.out.bel)).mono ?_
      rintro e wz ⟨rfl, hb⟩
      have HP9 := Lib.hid (hps.out.below hb)
      have HE9 := Lib.hid (HEr.out.step hb)
      clear hb hps
      go_wp2_with fail
      refine (end_at W.heap.size sa sa y (nrmT T) m c va H Oe _ HP9.out.sta (HR.out.below HE9.out.bel) HOE1).mono ?_
      rintro e w10 ⟨u10, va10, rfl, hu10, hs10, hk10, hv10⟩
      have HSBL : Hid (sb < wz.heap.size) := HP9.out.stb.lt
      have HP10 := Lib.hid (HP9.out.pushA (hk10.weak (fun _ _ e => .inl e)) hs10 (fun b _ hn e => hn (hv10 b e)))
      have HU10 := Lib.hid hu10
      clear hu10 hs10 hk10 hv10 HP9
      go_wp2_with fail
      refine (rend_at 0 W.heap.size sb x T m c vb H Oe _ HP10.out.stb HCAP.out HOE2).mono ?_
      rintro e w11 ⟨u11, vb11, rfl, hu11, hs11, hk11, hv11⟩
      have HP11 := Lib.hid (HP10.out.pushB (hk11.weak (fun _ _ e => .inl e)) hs11 (fun b _ hn e => hn (hv11 b e)))
      have HU11 := Lib.hid hu11
      have HU10b : Hid (Ints w11 wz.heap.size u10 Oe) := hk11.owns HU10.out (fun b e r => by
        have e1 := (World.ownsRow.lt HU10.out b e).1
        have := HSBL.out
        omega)
      clear hu11 hs11 hk11 hv11 HP10 HSBL HU10
      go_wp2_with fail
      refine (same_at u10 u11 Oe Oe true _ (HU10b.out.inV HOEL.out) (HU11.out.inV HOEL.out) t4).mono ?_
      rintro e w12 ⟨rfl, hb12⟩
      have HP12 := Lib.hid (HP11.out.below hb12)
      clear hb12 HP11
      go_wp2_with fail
      refine (held_at W.heap.size sa sa y (nrmT T) m c va10 [] 0 _ HP12.out.sta rfl).mono ?_
      rintro e w13 ⟨rfl, hb13⟩
      have HZ := Lib.hid ((HE.out.step HP12.out.bel).step hb13).bel
      clear hb13
      go_wp2
      go_ret
      exact ⟨rfl, HZ.out⟩

end Go.Proofs.YtfmfifmmaihodaaGreatDoor
