/-
  The walk of ContextFree (genCY.py).
-/
import Derived.Test.YtddphlindcabpaaDoorPkZZK
set_option linter.unusedSimpArgs false
set_option linter.unusedVariables false
namespace Go.Proofs.YtddphlindcabpaaDoor
open Go.RowKit
set_option linter.unusedVariables false

theorem free_ok {T : Tb} {l : List Int} (ha : accE T l = 0) (hc : ∀ c ∈ l, needB c = false) : chkC T l = (0, 0) :=
  chkC_ok ha fun i hi => ctx_free (hc _ (by simp [hi]))

set_option maxRecDepth 100000 in
set_option maxHeartbeats 8000000 in
theorem contextFree_walk (p0 : Option Addr) (cap0 : Nat) (zs0 : List Int) (p1 : Option Addr) (cap1 : Nat) (zs1 : List Int) (w : World) (hin0 : IntsIn w p0 zs0) (hl0 : zs0.length ≤ 17592186043904) (hin1 : IntsIn w p1 zs1) (hl1 : zs1.length ≤ 17592186043904) (hr : Rsv w) :
    Calls Tryd.prog 3 #[.slice p0 zs0.length cap0, .slice p1 zs1.length cap1] w (Gives (.bool true) w) := by
  have HI0 := Lib.hid hin0
  have HL0 := Lib.hid hl0
  have HI1 := Lib.hid hin1
  have HL1 := Lib.hid hl1
  have HR := Lib.hid hr
  clear hin0 hl0 hin1 hl1 hr
  go_enter Tryd.func3, Tryd.ntmps3
  go_wp2_with fail
  refine (tables_any p0 cap0 zs0 _ HI0.out HL0.out).mono ?_
  rintro e w1 ⟨⟨a0, a1, a2, a3, a4, a5, a6, a7, a8, a9, a10, a11⟩, T, rfl, htv, hm, hcap1, hb1⟩
  obtain ⟨pa0, na0, qa0, hsl0⟩ : Slc a0 := htv.cat.slc
  subst hsl0
  obtain ⟨pa1, na1, qa1, hsl1⟩ : Slc a1 := htv.cls.slc
  subst hsl1
  obtain ⟨pa2, na2, qa2, hsl2⟩ : Slc a2 := htv.joi.slc
  subst hsl2
  obtain ⟨pa3, na3, qa3, hsl3⟩ : Slc a3 := htv.bid.slc
  subst hsl3
  obtain ⟨pa4, na4, qa4, hsl4⟩ : Slc a4 := htv.scr.slc
  subst hsl4
  obtain ⟨pa5, na5, qa5, hsl5⟩ : Slc a5 := htv.sta.slc
  subst hsl5
  obtain ⟨pa6, na6, qa6, hsl6⟩ : Slc a6 := htv.ign.slc
  subst hsl6
  obtain ⟨pa7, na7, qa7, hsl7⟩ : Slc a7 := htv.ext.slc
  subst hsl7
  obtain ⟨pa8, na8, qa8, hsl8⟩ : Slc a8 := htv.map.slc
  subst hsl8
  obtain ⟨pa9, na9, qa9, hsl9⟩ : Slc a9 := htv.dec.slc
  subst hsl9
  obtain ⟨pa10, na10, qa10, hsl10⟩ : Slc a10 := htv.exc.slc
  subst hsl10
  obtain ⟨pa11, na11, qa11, hsl11⟩ : Slc a11 := htv.pro.slc
  subst hsl11
  have hba1 : Below w1.heap.size w1 (w1.alloc (.cells (tabCells ⟨.slice pa0 na0 qa0, .slice pa1 na1 qa1, .slice pa2 na2 qa2, .slice pa3 na3 qa3, .slice pa4 na4 qa4, .slice pa5 na5 qa5, .slice pa6 na6 qa6, .slice pa7 na7 qa7, .slice pa8 na8 qa8, .slice pa9 na9 qa9, .slice pa10 na10 qa10, .slice pa11 na11 qa11⟩) 26)) := (Below.refl _ _).alloc (Nat.le_refl _) _
  have HT1 : Hid (TabV (w1.alloc (.cells (tabCells ⟨.slice pa0 na0 qa0, .slice pa1 na1 qa1, .slice pa2 na2 qa2, .slice pa3 na3 qa3, .slice pa4 na4 qa4, .slice pa5 na5 qa5, .slice pa6 na6 qa6, .slice pa7 na7 qa7, .slice pa8 na8 qa8, .slice pa9 na9 qa9, .slice pa10 na10 qa10, .slice pa11 na11 qa11⟩) 26)) ⟨.slice pa0 na0 qa0, .slice pa1 na1 qa1, .slice pa2 na2 qa2, .slice pa3 na3 qa3, .slice pa4 na4 qa4, .slice pa5 na5 qa5, .slice pa6 na6 qa6, .slice pa7 na7 qa7, .slice pa8 na8 qa8, .slice pa9 na9 qa9, .slice pa10 na10 qa10, .slice pa11 na11 qa11⟩ T) := htv.below hba1
  have HX1 : Hid (BoxT (w1.alloc (.cells (tabCells ⟨.slice pa0 na0 qa0, .slice pa1 na1 qa1, .slice pa2 na2 qa2, .slice pa3 na3 qa3, .slice pa4 na4 qa4, .slice pa5 na5 qa5, .slice pa6 na6 qa6, .slice pa7 na7 qa7, .slice pa8 na8 qa8, .slice pa9 na9 qa9, .slice pa10 na10 qa10, .slice pa11 na11 qa11⟩) 26)) w1.heap.size ⟨.slice pa0 na0 qa0, .slice pa1 na1 qa1, .slice pa2 na2 qa2, .slice pa3 na3 qa3, .slice pa4 na4 qa4, .slice pa5 na5 qa5, .slice pa6 na6 qa6, .slice pa7 na7 qa7, .slice pa8 na8 qa8, .slice pa9 na9 qa9, .slice pa10 na10 qa10, .slice pa11 na11 qa11⟩) := BoxT.new _ _ _
  have HB1 : Hid (Below w.heap.size w (w1.alloc (.cells (tabCells ⟨.slice pa0 na0 qa0, .slice pa1 na1 qa1, .slice pa2 na2 qa2, .slice pa3 na3 qa3, .slice pa4 na4 qa4, .slice pa5 na5 qa5, .slice pa6 na6 qa6, .slice pa7 na7 qa7, .slice pa8 na8 qa8, .slice pa9 na9 qa9, .slice pa10 na10 qa10, .slice pa11 na11 qa11⟩) 26))) := hb1.trans (hba1.mono hb1.size)
  have HM := Lib.hid hm
  have HCAP : Hid (CapOf ⟨.slice pa0 na0 qa0, .slice pa1 na1 qa1, .slice pa2 na2 qa2, .slice pa3 na3 qa3, .slice pa4 na4 qa4, .slice pa5 na5 qa5, .slice pa6 na6 qa6, .slice pa7 na7 qa7, .slice pa8 na8 qa8, .slice pa9 na9 qa9, .slice pa10 na10 qa10, .slice pa11 na11 qa11⟩) := hcap1
  clear htv hm hcap1 hb1 hba1
  simp only [tabCells] at HT1 HX1 HB1
  go_wp2_with fail
  generalize (w1.alloc (.cells #[.slice pa0 na0 qa0, .slice pa1 na1 qa1, .slice pa2 na2 qa2, .slice pa3 na3 qa3, .slice pa4 na4 qa4, .slice pa5 na5 qa5, .slice pa6 na6 qa6, .slice pa7 na7 qa7, .slice pa8 na8 qa8, .slice pa9 na9 qa9, .slice pa10 na10 qa10, .slice pa11 na11 qa11] 26)) = W at HT1 HX1 HB1 ⊢
  generalize w1.heap.size = g at HX1 ⊢
  generalize (⟨.slice pa0 na0 qa0, .slice pa1 na1 qa1, .slice pa2 na2 qa2, .slice pa3 na3 qa3, .slice pa4 na4 qa4, .slice pa5 na5 qa5, .slice pa6 na6 qa6, .slice pa7 na7 qa7, .slice pa8 na8 qa8, .slice pa9 na9 qa9, .slice pa10 na10 qa10, .slice pa11 na11 qa11⟩ : TV) = x at HT1 HX1 HCAP
  have HE : Hid (LEnv w g x T W) := ⟨HT1.out, HX1.out, HB1.out⟩
  clear HT1 HX1 HB1
  refine (special_any p1 cap1 zs1 _ (HI1.out.below HE.out.bel) HL1.out).mono ?_
  rintro e wa ⟨xs, va, rfl, hna, hsa, hi, hb⟩
  obtain ⟨pa, ca, rfl, hia⟩ := hi.inn
  replace HE := Lib.hid (HE.out.step hb)
  have Ha := Lib.hid hia
  have HSa := Lib.hid hsa
  clear hi hb hia hsa
  obtain ⟨n, hn⟩ : ∃ n, xs.length = n := ⟨_, rfl⟩
  rw [hn] at hna ⊢
  have HN := Lib.hid hn
  clear hn
  go_wp2
  go_loopw [6, 20] (fun v i wr => ∃ (k : Nat) (ys : List Int), k ≤ n ∧ i = .int .i64 k ∧ ys.length ≤ k ∧ Hid (ys.all scaB = true) ∧ Hid (∀ c ∈ ys, needB c = false) ∧ Hid (Ints wr wa.heap.size v ys) ∧ Hid (Below wa.heap.size wa wr)) (fun _ i _ => n - (intOf i).toNat)
  case atStart => exact ⟨0, [], Nat.zero_le _, rfl, by simp, rfl, by simp [Hid], Ints.nil _ _, Below.refl _ _⟩
  case round =>
    obtain ⟨k, ys, hk, rfl, hyk, hya, hyn, hown, hbel⟩ := hrel
    by_cases hlt : k < n
    · have hkl : k < xs.length := by rw [HN.out]; exact hlt
      obtain ⟨b, off, rfl, hck⟩ := (Ha.out.below hbel.out) k hkl
      obtain ⟨c, hc⟩ : ∃ c, xs.getD k 0 = c := ⟨_, rfl⟩
      rw [hc] at hck
      have HSC : Hid (scaB c = true) := by unfold Hid; exact List.all_eq_true.1 HSa.out c (by rw [← hc]; simp [hkl])
      obtain ⟨B, hB⟩ : ∃ B, Hid (needB c = B) := ⟨_, rfl⟩
      clear hc hkl
      go_wp2_with fail
      refine (cis_at c B _ hB).mono ?_
      rintro e w2 ⟨rfl, hb⟩
      replace hown := Lib.hid (hown.out.below hb)
      replace hbel := Lib.hid (hbel.out.trans (hb.mono hbel.out.size))
      clear hb hck
      cases B with
      | true =>
        go_wp2
        go_roundw
        case rel => exact ⟨k + 1, ys, by omega, by go_num, by omega, hya, hyn, hown, hbel⟩
        case measure => first | (simp [intOf]; done) | (simp [intOf]; omega)
      | false =>
        have HYN : Hid (∀ y ∈ ys ++ [c], needB y = false) := fun y hy => by
          rcases List.mem_append.1 hy with hy | hy
          · exact hyn.out y hy
          · rw [List.mem_singleton] at hy; subst hy; exact hB.out
        have HYA : Hid ((ys ++ [c]).all scaB = true) := by unfold Hid; rw [List.all_append, hya.out]; simpa using HSC.out
        have HB1 := Lib.hid (hbel.out.alloc hbel.out.size (.cells #[.int .i64 c] 3))
        have HO1 := Lib.hid (World.ownsRow.alloc hown.out (.cells #[.int .i64 c] 3))
        have hsz : wa.heap.size ≤ (w2.alloc (.cells #[.int .i64 c] 3)).heap.size := HB1.out.size
        go_wp2_with (at_builtin; (refine wpList_append_ints (.tmp 27) (.tmp 29) rfl rfl wa.heap.size u6 ys rfl HO1.out (some ⟨w2.heap.size, 0, none⟩) 1 1 [c] rfl rfl (cx_one w2 c) (by simp; omega) hsz ?_); intro v4 w4 ho4 hg4)
        have HO4 := Lib.hid ho4
        have HB4 := Lib.hid (below_appI HB1.out HO1.out (Nat.le_refl _) hg4)
        clear ho4 hg4 hsz
        go_wp2
        go_roundw
        case rel => exact ⟨k + 1, ys ++ [c], by omega, by go_num, by simp; omega, HYA, HYN, HO4, HB4⟩
        case measure => first | (simp [intOf]; done) | (simp [intOf]; omega)
    · have hac : accE T ys = 0 := accE_zero HM.out.check (by omega) hya.out
      have hck := Lib.hid (free_ok hac hyn.out)
      have HE3 := Lib.hid (HE.out.step hbel.out)
      obtain ⟨p6, c6, e6, hi6⟩ := hown.out.inn
      subst e6
      have hcc := fun W (h1 : TabV W x T) h2 h3 => ccheck_at x T p6 c6 ys 0 0 W h1 h2 h3 (by omega) hck
      have hmy : ys.length ≤ 10 := by omega
      obtain ⟨m, hm⟩ : ∃ n, ys.length = n := ⟨_, rfl⟩
      rw [hm] at hcc hmy ⊢
      have HCC := Lib.hid hcc
      have HI6 := Lib.hid hi6
      have HMY := Lib.hid hm
      clear hac hck hi6 hcc hm hya hown hbel hyk
      obtain ⟨⟨k0, k1, k2, k3, k4, k5⟩, ⟨k6, k7, k8, k9, k10, k11⟩⟩ := HE3.out.box.load
      go_wp2_with fail
      refine (HCC.out _ HE3.out.tab (HR.out.below HE3.out.bel) HI6.out).mono ?_
      rintro e w6 ⟨rfl, hb⟩
      replace HE3 := Lib.hid (HE3.out.step hb)
      replace HI6 := Lib.hid (HI6.out.below hb)
      clear hb k0 k1 k2 k3 k4 k5 k6 k7 k8 k9 k10 k11
      go_wp2
      go_loopw [40] (fun i wv => ∃ j : Nat, j ≤ m ∧ i = .int .i64 j ∧ Hid (Below w6.heap.size w6 wv)) (fun i _ => m - (intOf i).toNat)
      case atStart => exact ⟨0, Nat.zero_le _, rfl, Lib.hid (Below.refl _ _)⟩
      case round =>
        obtain ⟨j, hj, rfl, hbj⟩ := hrel
        by_cases hjm : j < m
        · have hjl : j < ys.length := by rw [HMY.out]; exact hjm
          obtain ⟨b2, off2, e2, hck2⟩ := (HI6.out.below hbj.out) j hjl
          subst e2
          obtain ⟨c2, hc2⟩ : ∃ c, ys.getD j 0 = c := ⟨_, rfl⟩
          rw [hc2] at hck2
          have HNC : Hid (needB c2 = false) := by unfold Hid; exact hyn.out c2 (by rw [← hc2]; simp [hjl])
          clear hc2 hjl
          go_wp2_with fail
          refine (rneeds_at c2 false _ HNC).mono ?_
          rintro e w7 ⟨rfl, hb⟩
          replace hbj := Lib.hid (hbj.out.trans (hb.mono hbj.out.size))
          clear hb hck2
          go_wp2
          go_roundw
          case rel => exact ⟨j + 1, by omega, by go_num, hbj⟩
          case measure => first | (simp [intOf]; done) | (simp [intOf]; omega)
        · have HE4 := Lib.hid (HE3.out.step hbj.out)
          go_wp2_with fail
          refine (awake15_any _ (HR.out.below HE4.out.bel)).mono ?_
          rintro e w9 ⟨rfl, hb⟩
          have HBZ := Lib.hid (HE4.out.step hb).bel
          clear hb
          go_wp2
          go_ret
          exact ⟨rfl, HBZ.out⟩

end Go.Proofs.YtddphlindcabpaaDoor
