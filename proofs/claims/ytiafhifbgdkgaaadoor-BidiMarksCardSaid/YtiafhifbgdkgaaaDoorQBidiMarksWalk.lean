/-
  The walk of BidiMarks (genBL.py).
-/
import Derived.Test.YtiafhifbgdkgaaaDoorPkZZM
import Derived.Test.YtiafhifbgdkgaaaDoorQTblS
import Derived.Test.YtiafhifbgdkgaaaDoorPkZ
set_option linter.unusedSimpArgs false
set_option linter.unusedVariables false
namespace Go.Proofs.YtiafhifbgdkgaaaDoor
open Go.RowKit
set_option linter.unusedVariables false

theorem r2_bidM {T : Tb} (h : r2 T = true) : spOk T.bid = true := by
  simp only [r2, spansT, List.all_cons, List.all_nil, Bool.and_eq_true] at h; exact h.1.2.2.2.1

set_option maxRecDepth 100000 in
set_option maxHeartbeats 8000000 in
theorem bidiMarks_walk (p0 : Option Addr) (cap0 : Nat) (zs0 : List Int) (p1 : Option Addr) (cap1 : Nat) (zs1 : List Int) (n2 : Int) (w : World) (hin0 : IntsIn w p0 zs0) (hl0 : zs0.length ≤ 17592186043904) (hin1 : IntsIn w p1 zs1) (hl1 : zs1.length ≤ 17592186043904) (hr : Rsv w) :
    Calls Tryd.prog 4 #[.slice p0 zs0.length cap0, .slice p1 zs1.length cap1, .int .i64 n2] w (Gives (.bool true) w) := by
  have HI0 := Lib.hid hin0
  have HL0 := Lib.hid hl0
  have HI1 := Lib.hid hin1
  have HL1 := Lib.hid hl1
  have HR := Lib.hid hr
  clear hin0 hl0 hin1 hl1 hr
  go_enter Tryd.func4, Tryd.ntmps4
  go_wp2_with fail
  refine (tables_any p0 cap0 zs0 _ HI0.out HL0.out).mono ?_
  rintro e w1 ⟨⟨a0, a1, a2, a3, a4, a5, a6, a7, a8, a9, a10, a11⟩, T, rfl, htv, hm, hcap1, hb1⟩
  obtain ⟨pa0, na0, qa0, hsl0⟩ : Slc a0 := htv.cat.slc
  subst hsl0
  obtain ⟨pa1, na1, qa1, hsl1⟩ : Slc a1 := htv.cls.slc
  subst hsl1
  obtain ⟨pa2, na2, qa2, hsl2⟩ : Slc a2 := htv.joi.slc
  subst hsl2
  obtain ⟨pa3, na3, qa3, hsl3⟩ : Slc a3 := htv.bid.slc
  subst hsl3
  obtain ⟨pa4, na4, qa4, hsl4⟩ : Slc a4 := htv.scr.slc
  subst hsl4
  obtain ⟨pa5, na5, qa5, hsl5⟩ : Slc a5 := htv.sta.slc
  subst hsl5
  obtain ⟨pa6, na6, qa6, hsl6⟩ : Slc a6 := htv.ign.slc
  subst hsl6
  obtain ⟨pa7, na7, qa7, hsl7⟩ : Slc a7 := htv.ext.slc
  subst hsl7
  obtain ⟨pa8, na8, qa8, hsl8⟩ : Slc a8 := htv.map.slc
  subst hsl8
  obtain ⟨pa9, na9, qa9, hsl9⟩ : Slc a9 := htv.dec.slc
  subst hsl9
  obtain ⟨pa10, na10, qa10, hsl10⟩ : Slc a10 := htv.exc.slc
  subst hsl10
  obtain ⟨pa11, na11, qa11, hsl11⟩ : Slc a11 := htv.pro.slc
  subst hsl11
  have hba1 : Below w1.heap.size w1 (w1.alloc (.cells (tabCells ⟨.slice pa0 na0 qa0, .slice pa1 na1 qa1, .slice pa2 na2 qa2, .slice pa3 na3 qa3, .slice pa4 na4 qa4, .slice pa5 na5 qa5, .slice pa6 na6 qa6, .slice pa7 na7 qa7, .slice pa8 na8 qa8, .slice pa9 na9 qa9, .slice pa10 na10 qa10, .slice pa11 na11 qa11⟩) 26)) := (Below.refl _ _).alloc (Nat.le_refl _) _
  have HT1 : Hid (TabV (w1.alloc (.cells (tabCells ⟨.slice pa0 na0 qa0, .slice pa1 na1 qa1, .slice pa2 na2 qa2, .slice pa3 na3 qa3, .slice pa4 na4 qa4, .slice pa5 na5 qa5, .slice pa6 na6 qa6, .slice pa7 na7 qa7, .slice pa8 na8 qa8, .slice pa9 na9 qa9, .slice pa10 na10 qa10, .slice pa11 na11 qa11⟩) 26)) ⟨.slice pa0 na0 qa0, .slice pa1 na1 qa1, .slice pa2 na2 qa2, .slice pa3 na3 qa3, .slice pa4 na4 qa4, .slice pa5 na5 qa5, .slice pa6 na6 qa6, .slice pa7 na7 qa7, .slice pa8 na8 qa8, .slice pa9 na9 qa9, .slice pa10 na10 qa10, .slice pa11 na11 qa11⟩ T) := htv.below hba1
  have HX1 : Hid (BoxT (w1.alloc (.cells (tabCells ⟨.slice pa0 na0 qa0, .slice pa1 na1 qa1, .slice pa2 na2 qa2, .slice pa3 na3 qa3, .slice pa4 na4 qa4, .slice pa5 na5 qa5, .slice pa6 na6 qa6, .slice pa7 na7 qa7, .slice pa8 na8 qa8, .slice pa9 na9 qa9, .slice pa10 na10 qa10, .slice pa11 na11 qa11⟩) 26)) w1.heap.size ⟨.slice pa0 na0 qa0, .slice pa1 na1 qa1, .slice pa2 na2 qa2, .slice pa3 na3 qa3, .slice pa4 na4 qa4, .slice pa5 na5 qa5, .slice pa6 na6 qa6, .slice pa7 na7 qa7, .slice pa8 na8 qa8, .slice pa9 na9 qa9, .slice pa10 na10 qa10, .slice pa11 na11 qa11⟩) := BoxT.new _ _ _
  have HB1 : Hid (Below w.heap.size w (w1.alloc (.cells (tabCells ⟨.slice pa0 na0 qa0, .slice pa1 na1 qa1, .slice pa2 na2 qa2, .slice pa3 na3 qa3, .slice pa4 na4 qa4, .slice pa5 na5 qa5, .slice pa6 na6 qa6, .slice pa7 na7 qa7, .slice pa8 na8 qa8, .slice pa9 na9 qa9, .slice pa10 na10 qa10, .slice pa11 na11 qa11⟩) 26))) := hb1.trans (hba1.mono hb1.size)
  have HM := Lib.hid hm
  have HCAP : Hid (CapOf ⟨.slice pa0 na0 qa0, .slice pa1 na1 qa1, .slice pa2 na2 qa2, .slice pa3 na3 qa3, .slice pa4 na4 qa4, .slice pa5 na5 qa5, .slice pa6 na6 qa6, .slice pa7 na7 qa7, .slice pa8 na8 qa8, .slice pa9 na9 qa9, .slice pa10 na10 qa10, .slice pa11 na11 qa11⟩) := hcap1
  clear htv hm hcap1 hb1 hba1
  simp only [tabCells] at HT1 HX1 HB1
  go_wp2_with fail
  generalize (w1.alloc (.cells #[.slice pa0 na0 qa0, .slice pa1 na1 qa1, .slice pa2 na2 qa2, .slice pa3 na3 qa3, .slice pa4 na4 qa4, .slice pa5 na5 qa5, .slice pa6 na6 qa6, .slice pa7 na7 qa7, .slice pa8 na8 qa8, .slice pa9 na9 qa9, .slice pa10 na10 qa10, .slice pa11 na11 qa11] 26)) = W at HT1 HX1 HB1 ⊢
  generalize w1.heap.size = g at HX1 ⊢
  generalize (⟨.slice pa0 na0 qa0, .slice pa1 na1 qa1, .slice pa2 na2 qa2, .slice pa3 na3 qa3, .slice pa4 na4 qa4, .slice pa5 na5 qa5, .slice pa6 na6 qa6, .slice pa7 na7 qa7, .slice pa8 na8 qa8, .slice pa9 na9 qa9, .slice pa10 na10 qa10, .slice pa11 na11 qa11⟩ : TV) = x at HT1 HX1 HCAP
  have HE : Hid (LEnv w g x T W) := ⟨HT1.out, HX1.out, HB1.out⟩
  clear HT1 HX1 HB1
  refine (mixed_any p1 cap1 zs1 _ (HI1.out.below HE.out.bel) HL1.out).mono ?_
  rintro e wa ⟨xs, va, rfl, hna, hsa, hi, hb⟩
  obtain ⟨pa, ca, rfl, hia, hcpa⟩ := ints_capL hi
  replace HE := Lib.hid (HE.out.step hb)
  have Ha := Lib.hid hia
  have HSa := Lib.hid hsa
  clear hi hb hia hsa
  have HSB : Hid (spOk T.bid = true) := r2_bidM (check_rules HM.out.check).2.1
  have hax : accE T xs = 0 := accE_zero HM.out.check (by omega) HSa.out
  obtain ⟨n, hn⟩ : ∃ n, xs.length = n := ⟨_, rfl⟩
  have HN := Lib.hid hn
  rw [hn] at hna ⊢
  obtain ⟨z, hz⟩ : ∃ z, Hid (bidT T 769 = z) := ⟨_, rfl⟩
  have HAX := Lib.hid hax
  clear hn hax hcpa
  by_cases h0 : n = 0
  · subst h0
    go_wp2_with fail
    refine (awake16_any _ (HR.out.below HE.out.bel)).mono ?_
    rintro e w9 ⟨rfl, hb⟩
    have HBZ := Lib.hid (HE.out.step hb).bel
    clear hb
    go_wp2
    go_ret
    exact ⟨rfl, HBZ.out⟩
  · have dn : ((n : Int) == 0) = false := by simp; omega
    have hne : xs ≠ [] := fun h => h0 (by rw [← HN.out, h]; rfl)
    have HNE := Lib.hid hne
    clear hne
    obtain ⟨⟨k0, k1, k2, k3, k4, k5⟩, ⟨k6, k7, k8, k9, k10, k11⟩⟩ := HE.out.box.load
    go_wp2_with fail
    refine (rbid_at x T 769 z _ HE.out.tab HSB.out hz).mono ?_
    rintro e w2 ⟨rfl, hb⟩
    replace HE := Lib.hid (HE.out.step hb)
    replace Ha := Lib.hid (Ha.out.below hb)
    clear hb k0 k1 k2 k3 k4 k5 k6 k7 k8 k9 k10 k11
    by_cases hz10 : z = 10
    · have d1 : (z != 10) = false := by simp [hz10]
      have HB10 : Hid (bidT T 769 = 10) := by unfold Hid; rw [hz.out, hz10]
      clear hz10
      obtain ⟨q, hq, hq4⟩ : ∃ q : Nat, Hid (pickS n2 4 = q) ∧ q < 4 := ⟨(pickS n2 4).toNat, by have := pickS_bd n2 4 (by omega); unfold Hid; omega, by have := pickS_bd n2 4 (by omega); omega⟩
      obtain ⟨z1, hz1⟩ : ∃ z, ruleT T xs = z := ⟨_, rfl⟩
      have hru : Hid (rulR T xs = (z1, 0)) := by unfold Hid rulR; rw [if_neg (by rw [HAX.out]; simp), hz1]
      have HMK : Hid (∀ j, rulR T (xs ++ List.replicate j 769) = if accE T (xs ++ List.replicate j 769) ≠ 0 then (0, accE T (xs ++ List.replicate j 769)) else (z1, 0)) := fun j => by
        unfold rulR
        rw [rule_marks T xs _ HNE.out (fun c hc => by rw [(List.mem_replicate.1 hc).2]; exact HB10.out), hz1]
      have HAM : Hid (∀ j, j ≤ 4 → accE T (xs ++ List.replicate j 769) = 0) := fun j hj => accE_zero HM.out.check (by rw [List.length_append, List.length_replicate, HN.out]; omega) (by rw [List.all_append, HSa.out, Bool.true_and, List.all_eq_true]; intro c hc; rw [(List.mem_replicate.1 hc).2]; decide)
      have HLA : Hid (([] : List Int).length + xs.length ≤ 17592186043904) := by unfold Hid; rw [HN.out]; simp; omega
      clear hz1 HB10
      go_wp2_with (first
        | (at_builtin; refine wpList_append_ints (.const (.slice none 0 0)) (.tmp 28) rfl rfl w2.heap.size (.slice none 0 0) [] rfl (Ints.nil _ _) pa n ca xs HN.out rfl Ha.out HLA.out (Nat.le_refl _) ?_; intro v6 w6 ho6 hg6; have hb6 : Below w2.heap.size w2 w6 := below_appI (Below.refl _ _) (Ints.nil w2 w2.heap.size) (Nat.le_refl _) hg6)
        | fail)
      rw [List.nil_append] at ho6
      have HO6 := Lib.hid ho6
      have HB6 := Lib.hid hb6
      clear ho6 hg6 hb6
      refine (pickN_at n2 4 q _ (by omega) (by omega) hq).mono ?_
      rintro e w' ⟨rfl, rfl⟩
      go_wp2
      go_loopw [9, 10] (fun v i wr => ∃ j : Nat, j ≤ q + 1 ∧ i = .int .i64 ((q : Int) - j) ∧ Hid (Ints wr w2.heap.size v (xs ++ List.replicate j 769)) ∧ Hid (Below w2.heap.size w2 wr)) (fun _ i _ => (intOf i + 1).toNat)
      case atStart => exact ⟨0, by omega, by simp, by simpa [Hid] using HO6.out, HB6⟩
      case round =>
        obtain ⟨j, hj, rfl, hown, hbel⟩ := hrel
        by_cases hjq : j ≤ q
        · obtain ⟨t, ht⟩ : ∃ t : Nat, q - j = t := ⟨_, rfl⟩
          have e1 : (q : Int) - (j : Int) = (t : Int) := by omega
          rw [e1]
          have g1 : decide ((0 : Int) ≤ (t : Int)) = true := decide_eq_true (by omega)
          have s1 : IntKind.i64.wrap ((t : Int) - 1) = (q : Int) - ((j + 1 : Nat) : Int) := (IntWalk.i64_in _ (by omega)).trans (by omega)
          have HB1 := Lib.hid (hbel.out.alloc hbel.out.size (.cells #[.int .i64 769] 3))
          have HO1 := Lib.hid (World.ownsRow.alloc hown.out (.cells #[.int .i64 769] 3))
          have hsz : w2.heap.size ≤ (wr.alloc (.cells #[.int .i64 769] 3)).heap.size := HB1.out.size
          have HLL : Hid ((xs ++ List.replicate j 769).length + ([769] : List Int).length ≤ 17592186043904) := by unfold Hid; rw [List.length_append, List.length_replicate, HN.out]; simp; omega
          have HRP : Hid (xs ++ List.replicate j (769 : Int) ++ [769] = xs ++ List.replicate (j + 1) 769) := by unfold Hid; rw [List.append_assoc, List.replicate_succ']
          clear e1
          go_wp2_with (at_builtin; (refine wpList_append_ints (.tmp 36) (.tmp 37) rfl rfl w2.heap.size u9 (xs ++ List.replicate j 769) rfl HO1.out (some ⟨wr.heap.size, 0, none⟩) 1 1 [769] rfl rfl (bo_one wr 769) HLL.out hsz ?_); intro v4 w4 ho4 hg4)
          rw [HRP.out] at ho4
          have HO4 := Lib.hid ho4
          have HB4 := Lib.hid (below_appI HB1.out HO1.out (Nat.le_refl _) hg4)
          clear ho4 hg4 hsz
          go_wp2
          go_roundw
          case rel => exact ⟨j + 1, by omega, by first | rfl | (rw [s1]) | (congr 1; omega), HO4, HB4⟩
          case measure => first | (simp [intOf]; done) | (simp [intOf]; omega)
        · obtain rfl : j = q + 1 := by omega
          have e1 : (q : Int) - ((q + 1 : Nat) : Int) = -1 := by omega
          rw [e1]
          have g1 : decide ((0 : Int) ≤ -1) = false := rfl
          clear e1
          have hru2 : Hid (rulR T (xs ++ List.replicate (q + 1) 769) = (z1, 0)) := by unfold Hid; rw [HMK.out, if_neg (by rw [HAM.out (q + 1) (by omega)]; simp)]
          obtain ⟨p6, c6, e6, hi6⟩ := hown.out.inn
          have hlen : (xs ++ List.replicate (q + 1) (769 : Int)).length = n + (q + 1) := by rw [List.length_append, List.length_replicate, HN.out]
          obtain ⟨X, hX⟩ : ∃ X, xs ++ List.replicate (q + 1) (769 : Int) = X := ⟨_, rfl⟩
          rw [hX] at hlen e6 hi6 hru2
          rw [hlen] at e6
          subst e6
          have hoa := fun W (h1 : TabV W x T) h2 h3 => brule_at x T pa ca xs z1 0 W h1 h2 h3 (by rw [HN.out]; omega) hru
          have hob := fun W (h1 : TabV W x T) h2 h3 => brule_at x T p6 c6 X z1 0 W h1 h2 h3 (by rw [hlen]; omega) hru2
          rw [HN.out] at hoa
          rw [hlen] at hob
          have HOA := Lib.hid hoa
          have HOB := Lib.hid hob
          have HI6 := Lib.hid hi6
          replace HE := Lib.hid (HE.out.step hbel.out)
          replace Ha := Lib.hid (Ha.out.below hbel.out)
          have n0 : (z1 == z1) = true := by simp
          clear hlen hX hi6 hoa hob hown hbel HMK HAM
          obtain ⟨⟨k0, k1, k2, k3, k4, k5⟩, ⟨k6, k7, k8, k9, k10, k11⟩⟩ := HE.out.box.load
          go_wp2_with fail
          refine (HOA.out _ HE.out.tab (HR.out.below HE.out.bel) Ha.out).mono ?_
          rintro e w7 ⟨rfl, hb⟩
          replace HE := Lib.hid (HE.out.step hb)
          replace HI6 := Lib.hid (HI6.out.below hb)
          clear hb k0 k1 k2 k3 k4 k5 k6 k7 k8 k9 k10 k11
          obtain ⟨⟨k0, k1, k2, k3, k4, k5⟩, ⟨k6, k7, k8, k9, k10, k11⟩⟩ := HE.out.box.load
          go_wp2_with fail
          refine (HOB.out _ HE.out.tab (HR.out.below HE.out.bel) HI6.out).mono ?_
          rintro e w8 ⟨rfl, hb⟩
          replace HE := Lib.hid (HE.out.step hb)
          clear hb k0 k1 k2 k3 k4 k5 k6 k7 k8 k9 k10 k11
          go_wp2_with fail
          refine (awake16_any _ (HR.out.below HE.out.bel)).mono ?_
          rintro e w9 ⟨rfl, hb⟩
          have HBZ := Lib.hid (HE.out.step hb).bel
          clear hb
          go_wp2
          go_ret
          exact ⟨rfl, HBZ.out⟩
    · have d1 : (z != 10) = true := by simp [hz10]
      clear hz10
      go_wp2_with fail
      refine (awake16_any _ (HR.out.below HE.out.bel)).mono ?_
      rintro e w9 ⟨rfl, hb⟩
      have HBZ := Lib.hid (HE.out.step hb).bel
      clear hb
      go_wp2
      go_ret
      exact ⟨rfl, HBZ.out⟩

end Go.Proofs.YtiafhifbgdkgaaaDoor
