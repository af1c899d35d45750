/-
  The walk of JoinerMirror (genJL.py).
-/
import Derived.Test.YtghmddfenmgncaaDoorSSjPkZZI
import Derived.Test.YtghmddfenmgncaaDoorSSjTblQ
import Derived.Deep.RegionHeld3
set_option linter.unusedSimpArgs false
set_option linter.unusedVariables false
namespace Go.Proofs.YtghmddfenmgncaaDoor
open Go.RowKit
set_option linter.unusedVariables false

theorem mir_snoc (l : List Int) (j : Nat) (h : j < l.length) : (l.drop j).reverse = (l.drop (j + 1)).reverse ++ [l.getD j 0] := by
  rw [jo_drop l j h, List.reverse_cons]

set_option maxRecDepth 100000 in
set_option maxHeartbeats 8000000 in
theorem joinerMirror_walk (p0 : Option Addr) (cap0 : Nat) (zs0 : List Int) (p1 : Option Addr) (cap1 : Nat) (zs1 : List Int) (n2 : Int) (w : World) (hin0 : IntsIn w p0 zs0) (hl0 : zs0.length ≤ 17592186043904) (hin1 : IntsIn w p1 zs1) (hl1 : zs1.length ≤ 17592186043904) (hr : Rsv w) :
    Calls Tryd.prog 6 #[.slice p0 zs0.length cap0, .slice p1 zs1.length cap1, .int .i64 n2] w (Gives (.bool true) w) := by
  have HI0 := Lib.hid hin0
  have HL0 := Lib.hid hl0
  have HI1 := Lib.hid hin1
  have HL1 := Lib.hid hl1
  have HR := Lib.hid hr
  clear hin0 hl0 hin1 hl1 hr
  go_enter Tryd.func6, Tryd.ntmps6
  go_wp2_with fail
  refine (tables_any p0 cap0 zs0 _ HI0.out HL0.out).mono ?_
  rintro e w1 ⟨⟨a0, a1, a2, a3, a4, a5, a6, a7, a8, a9, a10, a11⟩, T, rfl, htv, hm, hcap1, hb1⟩
  obtain ⟨pa0, na0, qa0, hsl0⟩ : Slc a0 := htv.cat.slc
  subst hsl0
  obtain ⟨pa1, na1, qa1, hsl1⟩ : Slc a1 := htv.cls.slc
  subst hsl1
  obtain ⟨pa2, na2, qa2, hsl2⟩ : Slc a2 := htv.joi.slc
  subst hsl2
  obtain ⟨pa3, na3, qa3, hsl3⟩ : Slc a3 := htv.bid.slc
  subst hsl3
  obtain ⟨pa4, na4, qa4, hsl4⟩ : Slc a4 := htv.scr.slc
  subst hsl4
  obtain ⟨pa5, na5, qa5, hsl5⟩ : Slc a5 := htv.sta.slc
  subst hsl5
  obtain ⟨pa6, na6, qa6, hsl6⟩ : Slc a6 := htv.ign.slc
  subst hsl6
  obtain ⟨pa7, na7, qa7, hsl7⟩ : Slc a7 := htv.ext.slc
  subst hsl7
  obtain ⟨pa8, na8, qa8, hsl8⟩ : Slc a8 := htv.map.slc
  subst hsl8
  obtain ⟨pa9, na9, qa9, hsl9⟩ : Slc a9 := htv.dec.slc
  subst hsl9
  obtain ⟨pa10, na10, qa10, hsl10⟩ : Slc a10 := htv.exc.slc
  subst hsl10
  obtain ⟨pa11, na11, qa11, hsl11⟩ : Slc a11 := htv.pro.slc
  subst hsl11
  have hba1 : Below w1.heap.size w1 (w1.alloc (.cells (tabCells ⟨.slice pa0 na0 qa0, .slice pa1 na1 qa1, .slice pa2 na2 qa2, .slice pa3 na3 qa3, .slice pa4 na4 qa4, .slice pa5 na5 qa5, .slice pa6 na6 qa6, .slice pa7 na7 qa7, .slice pa8 na8 qa8, .slice pa9 na9 qa9, .slice pa10 na10 qa10, .slice pa11 na11 qa11⟩) 26)) := (Below.refl _ _).alloc (Nat.le_refl _) _
  have HT1 : Hid (TabV (w1.alloc (.cells (tabCells ⟨.slice pa0 na0 qa0, .slice pa1 na1 qa1, .slice pa2 na2 qa2, .slice pa3 na3 qa3, .slice pa4 na4 qa4, .slice pa5 na5 qa5, .slice pa6 na6 qa6, .slice pa7 na7 qa7, .slice pa8 na8 qa8, .slice pa9 na9 qa9, .slice pa10 na10 qa10, .slice pa11 na11 qa11⟩) 26)) ⟨.slice pa0 na0 qa0, .slice pa1 na1 qa1, .slice pa2 na2 qa2, .slice pa3 na3 qa3, .slice pa4 na4 qa4, .slice pa5 na5 qa5, .slice pa6 na6 qa6, .slice pa7 na7 qa7, .slice pa8 na8 qa8, .slice pa9 na9 qa9, .slice pa10 na10 qa10, .slice pa11 na11 qa11⟩ T) := htv.below hba1
  have HX1 : Hid (BoxT (w1.alloc (.cells (tabCells ⟨.slice pa0 na0 qa0, .slice pa1 na1 qa1, .slice pa2 na2 qa2, .slice pa3 na3 qa3, .slice pa4 na4 qa4, .slice pa5 na5 qa5, .slice pa6 na6 qa6, .slice pa7 na7 qa7, .slice pa8 na8 qa8, .slice pa9 na9 qa9, .slice pa10 na10 qa10, .slice pa11 na11 qa11⟩) 26)) w1.heap.size ⟨.slice pa0 na0 qa0, .slice pa1 na1 qa1, .slice pa2 na2 qa2, .slice pa3 na3 qa3, .slice pa4 na4 qa4, .slice pa5 na5 qa5, .slice pa6 na6 qa6, .slice pa7 na7 qa7, .slice pa8 na8 qa8, .slice pa9 na9 qa9, .slice pa10 na10 qa10, .slice pa11 na11 qa11⟩) := BoxT.new _ _ _
  have HB1 : Hid (Below w.heap.size w (w1.alloc (.cells (tabCells ⟨.slice pa0 na0 qa0, .slice pa1 na1 qa1, .slice pa2 na2 qa2, .slice pa3 na3 qa3, .slice pa4 na4 qa4, .slice pa5 na5 qa5, .slice pa6 na6 qa6, .slice pa7 na7 qa7, .slice pa8 na8 qa8, .slice pa9 na9 qa9, .slice pa10 na10 qa10, .slice pa11 na11 qa11⟩) 26))) := hb1.trans (hba1.mono hb1.size)
  have HM := Lib.hid hm
  have HCAP : Hid (CapOf ⟨.slice pa0 na0 qa0, .slice pa1 na1 qa1, .slice pa2 na2 qa2, .slice pa3 na3 qa3, .slice pa4 na4 qa4, .slice pa5 na5 qa5, .slice pa6 na6 qa6, .slice pa7 na7 qa7, .slice pa8 na8 qa8, .slice pa9 na9 qa9, .slice pa10 na10 qa10, .slice pa11 na11 qa11⟩) := hcap1
  clear htv hm hcap1 hb1 hba1
  simp only [tabCells] at HT1 HX1 HB1
  go_wp2_with fail
  generalize (w1.alloc (.cells #[.slice pa0 na0 qa0, .slice pa1 na1 qa1, .slice pa2 na2 qa2, .slice pa3 na3 qa3, .slice pa4 na4 qa4, .slice pa5 na5 qa5, .slice pa6 na6 qa6, .slice pa7 na7 qa7, .slice pa8 na8 qa8, .slice pa9 na9 qa9, .slice pa10 na10 qa10, .slice pa11 na11 qa11] 26)) = W at HT1 HX1 HB1 ⊢
  generalize w1.heap.size = g at HX1 ⊢
  generalize (⟨.slice pa0 na0 qa0, .slice pa1 na1 qa1, .slice pa2 na2 qa2, .slice pa3 na3 qa3, .slice pa4 na4 qa4, .slice pa5 na5 qa5, .slice pa6 na6 qa6, .slice pa7 na7 qa7, .slice pa8 na8 qa8, .slice pa9 na9 qa9, .slice pa10 na10 qa10, .slice pa11 na11 qa11⟩ : TV) = x at HT1 HX1 HCAP
  have HE : Hid (LEnv w g x T W) := ⟨HT1.out, HX1.out, HB1.out⟩
  clear HT1 HX1 HB1
  refine (joining_any p1 cap1 zs1 _ (HI1.out.below HE.out.bel) HL1.out).mono ?_
  rintro e wa ⟨xs, va, rfl, hna, hsa, hi, hb⟩
  obtain ⟨pa, ca, rfl, hia⟩ := hi.inn
  replace HE := Lib.hid (HE.out.step hb)
  have Ha := Lib.hid hia
  have HSa := Lib.hid hsa
  clear hi hb hia hsa
  by_cases hz0 : xs.length = 0
  · rw [hz0]
    go_wp2_with fail
    refine (awake14_any _ (HR.out.below HE.out.bel)).mono ?_
    rintro e w9 ⟨rfl, hb⟩
    have HBZ := Lib.hid (HE.out.step hb).bel
    clear hb
    go_wp2
    go_ret
    exact ⟨rfl, HBZ.out⟩
  · obtain ⟨n, hn⟩ : ∃ n, xs.length = n := ⟨_, rfl⟩
    have hn0 : n ≠ 0 := by omega
    have hac := Lib.hid (accE_zero HM.out.check (by omega : xs.length ≤ 4096) HSa.out)
    have harv : accE T xs.reverse = 0 := accE_zero HM.out.check (by simp; omega) (by rw [List.all_reverse]; exact HSa.out)
    have HARV := Lib.hid harv
    rw [hn] at hna ⊢
    have HN := Lib.hid hn
    have hnn : (n : Int) ≠ 0 := by omega
    have n0 : ((n : Int) == 0) = false := by simp; omega
    have s1 : IntKind.i64.wrap ((n : Int) - 1) = (n : Int) - 1 := IntWalk.i64_in _ (by omega)
    clear hn hz0 harv
    go_wp2
    go_loopw [9, 10] (fun v kv wr => ∃ j : Nat, j ≤ n ∧ kv = .int .i64 ((j : Int) - 1) ∧ Hid (Ints wr wa.heap.size v (xs.drop j).reverse) ∧ Hid (Below wa.heap.size wa wr)) (fun _ kv _ => (intOf kv + 1).toNat)
    case atStart => exact ⟨n, Nat.le_refl _, rfl, by rw [List.drop_eq_nil_of_le (by rw [HN.out]; exact Nat.le_refl _)]; exact Ints.nil _ _, Below.refl _ _⟩
    case round =>
      obtain ⟨j, hj, rfl, hown, hbel⟩ := hrel
      by_cases hj0 : 0 < j
      · obtain ⟨i, rfl⟩ : ∃ i, j = i + 1 := ⟨j - 1, by omega⟩
        have hi1 : (((i + 1 : Nat) : Int) - 1) = (i : Int) := by omega
        rw [hi1]
        have hil : i < xs.length := by rw [HN.out]; omega
        obtain ⟨b, off, rfl, hck⟩ := (Ha.out.below hbel.out) i hil
        obtain ⟨c, hc⟩ : ∃ c, xs.getD i 0 = c := ⟨_, rfl⟩
        rw [hc] at hck
        have HSN := Lib.hid (mir_snoc xs i hil)
        rw [hc] at HSN
        have hlen : ((xs.drop (i + 1)).reverse).length ≤ 10 := by have := HN.out; simp; omega
        have HLN := Lib.hid hlen
        have HB1 := Lib.hid (hbel.out.alloc hbel.out.size (.cells #[.int .i64 c] 3))
        have HO1 := Lib.hid (World.ownsRow.alloc hown.out (.cells #[.int .i64 c] 3))
        have hsz : wa.heap.size ≤ (wr.alloc (.cells #[.int .i64 c] 3)).heap.size := HB1.out.size
        have i0 : (0 : Int) ≤ (i : Int) := by omega
        have i1 : (i : Int) < (n : Int) := by omega
        have i2 : decide ((0 : Int) ≤ (i : Int)) = true := decide_eq_true (by omega)
        have i3 : IntKind.i64.wrap ((i : Int) - 1) = (i : Int) - 1 := IntWalk.i64_in _ (by omega)
        clear hc hlen hil
        go_wp2_with (at_builtin; (refine wpList_append_ints (.tmp 29) (.tmp 34) rfl rfl wa.heap.size u9 ((xs.drop (i + 1)).reverse) rfl HO1.out (some ⟨wr.heap.size, 0, none⟩) 1 1 [c] rfl rfl (jo_one wr c) (by have := HLN.out; simp at this ⊢; omega) hsz ?_); intro v4 w4 ho4 hg4)
        have HO4 : Hid (Ints w4 wa.heap.size v4 (xs.drop i).reverse) := by unfold Hid; rw [HSN.out]; exact ho4
        have HB4 := Lib.hid (below_appI HB1.out HO1.out (Nat.le_refl _) hg4)
        clear ho4 hg4 hsz
        go_wp2
        go_roundw
        case rel => exact ⟨i, by omega, rfl, HO4, HB4⟩
        case measure => first | (simp [intOf]; done) | (simp [intOf]; omega)
      · obtain rfl : j = 0 := by omega
        have HE3 := Lib.hid (HE.out.step hbel.out)
        have HA3 := Lib.hid (Ha.out.below hbel.out)
        have hown2 := hown.out
        rw [List.drop_zero] at hown2
        obtain ⟨pR, cR, eR, hiR⟩ := hown2.inn
        rw [List.length_reverse, HN.out] at eR
        subst eR
        have HIR := Lib.hid hiR
        clear hown2 hiR hown hbel
        obtain ⟨q, HQ, hq⟩ := pickN_nm n2 n (by omega)
        go_wp2_with fail
        refine (pickN_at n2 n q _ (by omega) (by omega) HQ).mono ?_
        rintro e w5 ⟨rfl, rfl⟩
        have hql : q < xs.length := by rw [HN.out]; exact hq
        obtain ⟨A, hA⟩ : ∃ A, Hid (lefR T xs q = A) := ⟨_, rfl⟩
        obtain ⟨m, hm⟩ : ∃ m, n - 1 - q = m := ⟨_, rfl⟩
        obtain ⟨B, hB⟩ : ∃ B, Hid (rigR T xs.reverse m = B) := ⟨_, rfl⟩
        have hml : m < xs.reverse.length := by rw [List.length_reverse, HN.out]; omega
        have hAB : (A = -1 ∧ B = -1) ∨ (0 ≤ A ∧ A < n ∧ B = (n : Int) - 1 - A) := by
          have h1 := hA.out
          have h2 := hB.out
          rw [lefR_ok hql hac.out] at h1
          rw [rigR_ok hml HARV.out] at h2
          rw [← hm, ← HN.out] at h2
          rcases mirror T xs hql with ⟨e1, e2⟩ | ⟨a, ha, e1, e2⟩
          · rw [e1] at h1; rw [e2] at h2
            exact .inl ⟨h1.symm, h2.symm⟩
          · rw [e1] at h1; rw [e2] at h2
            rw [HN.out] at ha h2
            have h1' : A = (a : Int) := h1.symm
            have h2' : B = ((n - 1 - a : Nat) : Int) := h2.symm
            exact .inr ⟨by omega, by omega, by omega⟩
        have hl1 := fun W (h1 : TabV W x T) h2 h3 => jleft_at x T pa ca xs q A W h1 h2 h3 (by rw [HN.out]; omega) hA
        have hl2 := fun W (h1 : TabV W x T) h2 h3 => jright_at x T pR cR xs.reverse m B W h1 h2 h3 (by rw [List.length_reverse, HN.out]; omega) hB
        rw [HN.out] at hl1
        rw [List.length_reverse, HN.out] at hl2
        have HL1' := Lib.hid hl1
        have HL2' := Lib.hid hl2
        have t1 : (n : Int) - 1 - (q : Int) = (m : Int) := by omega
        have t2 : IntKind.i64.wrap (m : Int) = (m : Int) := IntWalk.i64_in _ (by omega)
        have t3 : IntKind.i64.wrap ((n : Int) - 1 - A) = (n : Int) - 1 - A := IntWalk.i64_in _ (by omega)
        have hn10 : (n : Int) ≤ 10 := by omega
        clear hql hml hm hl1 hl2 HQ
        go_upto_region 11 with (fail)
        have e0 := HE3.out.step (drew_one wr)
        have HE0 := Lib.hid e0
        have HX0 := Lib.hid (HA3.out.below (drew_one wr))
        have HY0 := Lib.hid (HIR.out.below (drew_one wr))
        clear e0
        obtain ⟨⟨k0, k1, k2, k3, k4, k5⟩, ⟨k6, k7, k8, k9, k10, k11⟩⟩ := HE3.out.box.load
        go_cut [12, 13] (fun a b wx => a = .int .i64 A ∧ b = .int .i64 B ∧ Hid (LEnv w g x T wx))
        case first =>
          go_region_held3 (boxF g x)
            (first
              | exact HE0.out.box.flat
              | exact (HE0.out.step hb3).box.flat
              | exact ((HE0.out.step hb3).step hb4).box.flat)
            (first
              | (go_at_call 15; (with_reducible refine (HL1'.out _ HE0.out.tab (HR.out.below HE0.out.bel) HX0.out).mono ?_); rintro e w3 ⟨rfl, hb3⟩)
              | (go_at_call 16; (with_reducible refine (HL2'.out _ (HE0.out.step hb3).tab (HR.out.below (HE0.out.step hb3).bel) (HY0.out.below hb3)).mono ?_); rintro e w4 ⟨rfl, hb4⟩)
              | fail)
          all_goals
            have hf := (HE0.out.step hb3).step hb4
            try (go_wp2_with fail)
            go_meet
            exact ⟨rfl, rfl, hf⟩
        case rest =>
          obtain ⟨rfl, rfl, HE4⟩ := hcut
          generalize wc = W1 at HE4 ⊢
          rcases hAB with ⟨rfl, rfl⟩ | ⟨ha0, han, rfl⟩
          · go_wp2_with fail
            refine (awake14_any _ (HR.out.below HE4.out.bel)).mono ?_
            rintro e w9 ⟨rfl, hb⟩
            have HBZ := Lib.hid (HE4.out.step hb).bel
            clear hb
            go_wp2
            go_ret
            exact ⟨rfl, HBZ.out⟩
          · have f1 : (A == -1) = false := by simp; omega
            have f2 : decide ((0 : Int) ≤ A) = true := decide_eq_true ha0
            have f3 : (((n : Int) - 1 - A) == ((n : Int) - 1 - A)) = true := by simp
            go_wp2_with fail
            refine (awake14_any _ (HR.out.below HE4.out.bel)).mono ?_
            rintro e w9 ⟨rfl, hb⟩
            have HBZ := Lib.hid (HE4.out.step hb).bel
            clear hb
            go_wp2
            go_ret
            exact ⟨rfl, HBZ.out⟩

end Go.Proofs.YtghmddfenmgncaaDoor
