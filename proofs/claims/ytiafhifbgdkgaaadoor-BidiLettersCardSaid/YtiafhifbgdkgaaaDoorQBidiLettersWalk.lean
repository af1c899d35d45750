/-
  The walk of BidiLetters (genBL.py).
-/
import Derived.Test.YtiafhifbgdkgaaaDoorPkZZM
import Derived.Test.YtiafhifbgdkgaaaDoorPkZ
set_option linter.unusedSimpArgs false
set_option linter.unusedVariables false
namespace Go.Proofs.YtiafhifbgdkgaaaDoor
open Go.RowKit
set_option linter.unusedVariables false

/-- The letters of the law. -/
def letL (l : List Int) : List Int := l.map fun b => 97 + b % 26
theorem letL_snoc (l : List Int) (k : Nat) (hk : k < l.length) : letL (l.take (k + 1)) = letL (l.take k) ++ [97 + l.getD k 0 % 26] := by
  rw [take_snoc_int l k hk]; unfold letL; simp
theorem letL_len (l : List Int) : (letL l).length = l.length := by unfold letL; simp
theorem letL_at (l : List Int) {c : Int} (h : c ∈ letL l) : 97 ≤ c ∧ c ≤ 122 := by
  unfold letL at h
  obtain ⟨b, _, rfl⟩ := List.mem_map.1 h
  omega
theorem bid_low {T : Tb} (h : checkT T = 0) {c : Int} (hc : 97 ≤ c ∧ c ≤ 122) : bidT T c = 0 := by
  have h2 := (check_rules h).2.1
  simp only [r2, spansT, List.all_cons, List.all_nil, Bool.and_eq_true] at h2
  unfold bidT
  rw [val_res h2.1.2.2.2.1 (resB_iff.2 (by omega))]
  unfold fixB
  rw [if_pos (by simp [lowB]; omega)]; rfl
theorem letL_acc {T : Tb} (h : checkT T = 0) (l : List Int) (hl : l.length ≤ 60) : accE T (letL l) = 0 :=
  accE_zero h (by rw [letL_len]; omega) (by rw [List.all_eq_true]; intro c hc; have := letL_at l hc; unfold scaB; simp; omega)
theorem letL_rule {T : Tb} (h : checkT T = 0) (l : List Int) (hl : l.length ≤ 60) : rulR T (letL l) = (0, 0) ∧ rtlR T (letL l) = false ∧ domR T [letL l, letL l] = (0, 0) := by
  have ha := letL_acc h l hl
  obtain ⟨h1, h2⟩ := rule_letters T (letL l) (fun c hc => bid_low h (letL_at l hc))
  refine ⟨by unfold rulR; rw [if_neg (by omega), h1], by unfold rtlR; rw [h2, Bool.and_false], ?_⟩
  exact domR_ok (by intro y hy; simp at hy; subst hy; exact ha) (by intro y hy; simp at hy; subst hy; exact h1)

set_option maxRecDepth 100000 in
set_option maxHeartbeats 8000000 in
theorem bidiLetters_walk (p0 : Option Addr) (cap0 : Nat) (zs0 : List Int) (p1 : Option Addr) (cap1 : Nat) (bs : List Int) (w : World) (hin0 : IntsIn w p0 zs0) (hl0 : zs0.length ≤ 17592186043904) (hin1 : RowIn .u8 w p1 bs) (hl1 : bs.length ≤ 140737488351232) (hby : ∀ z ∈ bs, (Lit.int .u8 z).wf = true) (hr : Rsv w) :
    Calls Tryd.prog 5 #[.slice p0 zs0.length cap0, .slice p1 bs.length cap1] w (Gives (.bool true) w) := by
  have HI0 := Lib.hid hin0
  have HL0 := Lib.hid hl0
  have HR := Lib.hid hr
  have HI1 := Lib.hid hin1
  have HBY := Lib.hid hby
  obtain ⟨nb, hnb⟩ : ∃ n, bs.length = n := ⟨_, rfl⟩
  rw [hnb] at hl1 ⊢
  have HNB := Lib.hid hnb
  clear hin0 hl0 hr hin1 hby hnb
  go_enter Tryd.func5, Tryd.ntmps5
  go_wp2_with fail
  refine (tables_any p0 cap0 zs0 _ HI0.out HL0.out).mono ?_
  rintro e w1 ⟨⟨a0, a1, a2, a3, a4, a5, a6, a7, a8, a9, a10, a11⟩, T, rfl, htv, hm, hcap1, hb1⟩
  obtain ⟨pa0, na0, qa0, hsl0⟩ : Slc a0 := htv.cat.slc
  subst hsl0
  obtain ⟨pa1, na1, qa1, hsl1⟩ : Slc a1 := htv.cls.slc
  subst hsl1
  obtain ⟨pa2, na2, qa2, hsl2⟩ : Slc a2 := htv.joi.slc
  subst hsl2
  obtain ⟨pa3, na3, qa3, hsl3⟩ : Slc a3 := htv.bid.slc
  subst hsl3
  obtain ⟨pa4, na4, qa4, hsl4⟩ : Slc a4 := htv.scr.slc
  subst hsl4
  obtain ⟨pa5, na5, qa5, hsl5⟩ : Slc a5 := htv.sta.slc
  subst hsl5
  obtain ⟨pa6, na6, qa6, hsl6⟩ : Slc a6 := htv.ign.slc
  subst hsl6
  obtain ⟨pa7, na7, qa7, hsl7⟩ : Slc a7 := htv.ext.slc
  subst hsl7
  obtain ⟨pa8, na8, qa8, hsl8⟩ : Slc a8 := htv.map.slc
  subst hsl8
  obtain ⟨pa9, na9, qa9, hsl9⟩ : Slc a9 := htv.dec.slc
  subst hsl9
  obtain ⟨pa10, na10, qa10, hsl10⟩ : Slc a10 := htv.exc.slc
  subst hsl10
  obtain ⟨pa11, na11, qa11, hsl11⟩ : Slc a11 := htv.pro.slc
  subst hsl11
  have hba1 : Below w1.heap.size w1 (w1.alloc (.cells (tabCells ⟨.slice pa0 na0 qa0, .slice pa1 na1 qa1, .slice pa2 na2 qa2, .slice pa3 na3 qa3, .slice pa4 na4 qa4, .slice pa5 na5 qa5, .slice pa6 na6 qa6, .slice pa7 na7 qa7, .slice pa8 na8 qa8, .slice pa9 na9 qa9, .slice pa10 na10 qa10, .slice pa11 na11 qa11⟩) 26)) := (Below.refl _ _).alloc (Nat.le_refl _) _
  have HT1 : Hid (TabV (w1.alloc (.cells (tabCells ⟨.slice pa0 na0 qa0, .slice pa1 na1 qa1, .slice pa2 na2 qa2, .slice pa3 na3 qa3, .slice pa4 na4 qa4, .slice pa5 na5 qa5, .slice pa6 na6 qa6, .slice pa7 na7 qa7, .slice pa8 na8 qa8, .slice pa9 na9 qa9, .slice pa10 na10 qa10, .slice pa11 na11 qa11⟩) 26)) ⟨.slice pa0 na0 qa0, .slice pa1 na1 qa1, .slice pa2 na2 qa2, .slice pa3 na3 qa3, .slice pa4 na4 qa4, .slice pa5 na5 qa5, .slice pa6 na6 qa6, .slice pa7 na7 qa7, .slice pa8 na8 qa8, .slice pa9 na9 qa9, .slice pa10 na10 qa10, .slice pa11 na11 qa11⟩ T) := htv.below hba1
  have HX1 : Hid (BoxT (w1.alloc (.cells (tabCells ⟨.slice pa0 na0 qa0, .slice pa1 na1 qa1, .slice pa2 na2 qa2, .slice pa3 na3 qa3, .slice pa4 na4 qa4, .slice pa5 na5 qa5, .slice pa6 na6 qa6, .slice pa7 na7 qa7, .slice pa8 na8 qa8, .slice pa9 na9 qa9, .slice pa10 na10 qa10, .slice pa11 na11 qa11⟩) 26)) w1.heap.size ⟨.slice pa0 na0 qa0, .slice pa1 na1 qa1, .slice pa2 na2 qa2, .slice pa3 na3 qa3, .slice pa4 na4 qa4, .slice pa5 na5 qa5, .slice pa6 na6 qa6, .slice pa7 na7 qa7, .slice pa8 na8 qa8, .slice pa9 na9 qa9, .slice pa10 na10 qa10, .slice pa11 na11 qa11⟩) := BoxT.new _ _ _
  have HB1 : Hid (Below w.heap.size w (w1.alloc (.cells (tabCells ⟨.slice pa0 na0 qa0, .slice pa1 na1 qa1, .slice pa2 na2 qa2, .slice pa3 na3 qa3, .slice pa4 na4 qa4, .slice pa5 na5 qa5, .slice pa6 na6 qa6, .slice pa7 na7 qa7, .slice pa8 na8 qa8, .slice pa9 na9 qa9, .slice pa10 na10 qa10, .slice pa11 na11 qa11⟩) 26))) := hb1.trans (hba1.mono hb1.size)
  have HM := Lib.hid hm
  have HCAP : Hid (CapOf ⟨.slice pa0 na0 qa0, .slice pa1 na1 qa1, .slice pa2 na2 qa2, .slice pa3 na3 qa3, .slice pa4 na4 qa4, .slice pa5 na5 qa5, .slice pa6 na6 qa6, .slice pa7 na7 qa7, .slice pa8 na8 qa8, .slice pa9 na9 qa9, .slice pa10 na10 qa10, .slice pa11 na11 qa11⟩) := hcap1
  clear htv hm hcap1 hb1 hba1
  simp only [tabCells] at HT1 HX1 HB1
  go_wp2_with fail
  generalize (w1.alloc (.cells #[.slice pa0 na0 qa0, .slice pa1 na1 qa1, .slice pa2 na2 qa2, .slice pa3 na3 qa3, .slice pa4 na4 qa4, .slice pa5 na5 qa5, .slice pa6 na6 qa6, .slice pa7 na7 qa7, .slice pa8 na8 qa8, .slice pa9 na9 qa9, .slice pa10 na10 qa10, .slice pa11 na11 qa11] 26)) = W at HT1 HX1 HB1 ⊢
  generalize w1.heap.size = g at HX1 ⊢
  generalize (⟨.slice pa0 na0 qa0, .slice pa1 na1 qa1, .slice pa2 na2 qa2, .slice pa3 na3 qa3, .slice pa4 na4 qa4, .slice pa5 na5 qa5, .slice pa6 na6 qa6, .slice pa7 na7 qa7, .slice pa8 na8 qa8, .slice pa9 na9 qa9, .slice pa10 na10 qa10, .slice pa11 na11 qa11⟩ : TV) = x at HT1 HX1 HCAP
  have HE : Hid (LEnv w g x T W) := ⟨HT1.out, HX1.out, HB1.out⟩
  clear HT1 HX1 HB1
  go_loopw [6, 7] (fun v i wr => ∃ k : Nat, k ≤ nb ∧ k ≤ 20 ∧ i = .int .i64 k ∧ Hid (Ints wr W.heap.size v (letL (bs.take k))) ∧ Hid (Below W.heap.size W wr)) (fun _ i _ => 20 - (intOf i).toNat)
  case atStart => exact ⟨0, Nat.zero_le _, Nat.zero_le _, rfl, Ints.nil _ _, Below.refl _ _⟩
  case round =>
    obtain ⟨k, hk, hk20, rfl, hown, hbel⟩ := hrel
    by_cases hlt : k < nb ∧ k < 20
    · obtain ⟨hlt, hlt20⟩ := hlt
      have hkl : k < bs.length := by rw [HNB.out]; exact hlt
      obtain ⟨b, off, rfl, hck⟩ := (HI1.out.below (HE.out.step hbel.out).bel) k hkl
      obtain ⟨z, hz⟩ : ∃ z, bs.getD k 0 = z := ⟨_, rfl⟩
      rw [hz] at hck
      have hwf := HBY.out z (by rw [← hz]; simp [hkl])
      have hz0 : 0 ≤ z ∧ z ≤ 255 := by simp only [Lit.wf, Bool.and_eq_true, decide_eq_true_eq] at hwf; exact hwf
      obtain ⟨hz0, hz255⟩ := hz0
      have HIS := Lib.hid (letL_snoc bs k hkl)
      rw [hz] at HIS
      have hli : (letL (bs.take k)).length ≤ 60 := by rw [letL_len]; simp; omega
      have HLI := Lib.hid hli
      obtain ⟨q, hq⟩ : ∃ q, z % 26 = q := ⟨_, rfl⟩
      have hq0 : 0 ≤ q ∧ q < 26 := by omega
      obtain ⟨hq0, hq26⟩ := hq0
      rw [hq] at HIS
      have hqt : z.tmod 26 = q := by rw [Int.tmod_eq_emod_of_nonneg hz0]; exact hq
      have hzw : IntKind.i64.wrap z = z := IntWalk.i64_in _ (by omega)
      obtain ⟨c, hc⟩ : ∃ c, 97 + q = c := ⟨_, rfl⟩
      have hcw : IntKind.i64.wrap c = c := IntWalk.i64_in _ (by omega)
      rw [hc] at HIS
      have HO1 := Lib.hid (World.ownsRow.alloc hown.out (.cells #[.int .i64 c] 3))
      have HB1 := Lib.hid (hbel.out.alloc hbel.out.size (.cells #[.int .i64 c] 3))
      have hd1 : decide ((k : Int) < (nb : Int)) = true := decide_eq_true (by omega)
      have hd2 : decide ((k : Int) < 20) = true := decide_eq_true (by omega)
      have HLL : Hid ((letL (bs.take k)).length + ([c] : List Int).length ≤ 17592186043904) := by unfold Hid; simp; omega
      clear hz hwf hli hkl
      go_wp2_with (at_builtin; (refine wpList_append_ints (.tmp 24) (.tmp 32) rfl rfl W.heap.size u6 (letL (bs.take k)) rfl HO1.out (some ⟨wr.heap.size, 0, none⟩) 1 1 [c] rfl rfl (bo_one wr c) HLL.out HB1.out.size ?_); intro v4 w4 ho4 hg4)
      have HO4 : Hid (Ints w4 W.heap.size v4 (letL (bs.take (k + 1)))) := by unfold Hid; rw [HIS.out]; exact ho4
      have HB4 := Lib.hid (below_appI HB1.out HO1.out (Nat.le_refl _) hg4)
      clear ho4 hg4 hck
      go_wp2
      go_roundw
      case rel => exact ⟨k + 1, by omega, by omega, by go_num, HO4, HB4⟩
      case measure => first | (simp [intOf]; done) | (simp [intOf]; omega)
    · by_cases h1 : k < nb
      · have hd1 : decide ((k : Int) < (nb : Int)) = true := decide_eq_true (by omega)
        have hd2 : decide ((k : Int) < 20) = false := decide_eq_false (by omega)
        have HBL := hbel.out
        have hln : (bs.take k).length ≤ 60 := by simp; omega
        obtain ⟨h1, h2, h3⟩ := letL_rule (T := T) HM.out.check _ hln
        obtain ⟨X, hX⟩ : ∃ X, letL (bs.take k) = X := ⟨_, rfl⟩
        have hxl : X.length ≤ 60 := by rw [← hX, letL_len]; exact hln
        have hrw := hown.out
        rw [hX] at hrw h1 h2 h3
        have HU1 := Lib.hid h1
        have HU2 := Lib.hid h2
        have HU3 := Lib.hid h3
        obtain ⟨pX, cX, e6, hi6, hcX⟩ := ints_capL hrw
        subst e6
        have HX := Lib.hid hi6
        have hoa := fun W (h1 : TabV W x T) h2 h3 => brule_at x T pX cX X 0 0 W h1 h2 h3 (by omega) HU1
        have hob := fun W (h1 : TabV W x T) h2 h3 => brtl_at x T pX cX X false W h1 h2 h3 (by omega) HU2
        have hoz := fun q W (h1 : TabV W x T) h2 h3 => bdom_at x T q 2 2 [X, X] 0 0 W h1 h2 h3 rfl (by omega) (by intro l hl; simp at hl; subst hl; omega) HU3
        have HOA := Lib.hid hoa
        have HOB := Lib.hid hob
        have HOZ := Lib.hid hoz
        have HCX := Lib.hid hcX
        replace HE := Lib.hid (HE.out.step HBL)
        clear h1 h2 h3 hX hrw hi6 hcX hoa hob hoz hown hbel HBL hln
        obtain ⟨⟨k0, k1, k2, k3, k4, k5⟩, ⟨k6, k7, k8, k9, k10, k11⟩⟩ := HE.out.box.load
        go_wp2_with fail
        refine (HOA.out _ HE.out.tab (HR.out.below HE.out.bel) HX.out).mono ?_
        rintro e w5 ⟨rfl, hb⟩
        replace HE := Lib.hid (HE.out.step hb)
        replace HX := Lib.hid (HX.out.below hb)
        clear hb k0 k1 k2 k3 k4 k5 k6 k7 k8 k9 k10 k11
        obtain ⟨⟨k0, k1, k2, k3, k4, k5⟩, ⟨k6, k7, k8, k9, k10, k11⟩⟩ := HE.out.box.load
        have HI := Lib.hid (ls2 (t := 22) HX.out HCX.out HX.out HCX.out)
        have HEA := Lib.hid (HE.out.step ((Below.refl w5.heap.size w5).alloc (Nat.le_refl _) (.cells #[.slice pX X.length cX, .slice pX X.length cX] 22)))
        go_wp2_with fail
        refine (HOZ.out _ _ HEA.out.tab (HR.out.below HEA.out.bel) HI.out).mono ?_
        rintro e w6 ⟨rfl, hb⟩
        have hbe := ((Below.refl w5.heap.size w5).alloc (Nat.le_refl _) (.cells #[.slice pX X.length cX, .slice pX X.length cX] 22)).trans (hb.mono (by simp))
        replace HE := Lib.hid (HE.out.step hbe)
        replace HX := Lib.hid (HX.out.below hbe)
        clear hb hbe HI HEA k0 k1 k2 k3 k4 k5 k6 k7 k8 k9 k10 k11
        go_wp2_with fail
        refine (awake16_any _ (HR.out.below HE.out.bel)).mono ?_
        rintro e w7 ⟨rfl, hb⟩
        replace HE := Lib.hid (HE.out.step hb)
        replace HX := Lib.hid (HX.out.below hb)
        clear hb
        obtain ⟨⟨k0, k1, k2, k3, k4, k5⟩, ⟨k6, k7, k8, k9, k10, k11⟩⟩ := HE.out.box.load
        go_wp2_with fail
        refine (HOB.out _ HE.out.tab (HR.out.below HE.out.bel) HX.out).mono ?_
        rintro e w8 ⟨rfl, hb⟩
        have HBZ := Lib.hid (HE.out.step hb).bel
        clear hb k0 k1 k2 k3 k4 k5 k6 k7 k8 k9 k10 k11
        go_wp2
        go_ret
        exact ⟨rfl, HBZ.out⟩
      · have hd1 : decide ((k : Int) < (nb : Int)) = false := decide_eq_false (by omega)
        have HBL := hbel.out
        have hln : (bs.take k).length ≤ 60 := by simp; omega
        obtain ⟨h1, h2, h3⟩ := letL_rule (T := T) HM.out.check _ hln
        obtain ⟨X, hX⟩ : ∃ X, letL (bs.take k) = X := ⟨_, rfl⟩
        have hxl : X.length ≤ 60 := by rw [← hX, letL_len]; exact hln
        have hrw := hown.out
        rw [hX] at hrw h1 h2 h3
        have HU1 := Lib.hid h1
        have HU2 := Lib.hid h2
        have HU3 := Lib.hid h3
        obtain ⟨pX, cX, e6, hi6, hcX⟩ := ints_capL hrw
        subst e6
        have HX := Lib.hid hi6
        have hoa := fun W (h1 : TabV W x T) h2 h3 => brule_at x T pX cX X 0 0 W h1 h2 h3 (by omega) HU1
        have hob := fun W (h1 : TabV W x T) h2 h3 => brtl_at x T pX cX X false W h1 h2 h3 (by omega) HU2
        have hoz := fun q W (h1 : TabV W x T) h2 h3 => bdom_at x T q 2 2 [X, X] 0 0 W h1 h2 h3 rfl (by omega) (by intro l hl; simp at hl; subst hl; omega) HU3
        have HOA := Lib.hid hoa
        have HOB := Lib.hid hob
        have HOZ := Lib.hid hoz
        have HCX := Lib.hid hcX
        replace HE := Lib.hid (HE.out.step HBL)
        clear h1 h2 h3 hX hrw hi6 hcX hoa hob hoz hown hbel HBL hln
        obtain ⟨⟨k0, k1, k2, k3, k4, k5⟩, ⟨k6, k7, k8, k9, k10, k11⟩⟩ := HE.out.box.load
        go_wp2_with fail
        refine (HOA.out _ HE.out.tab (HR.out.below HE.out.bel) HX.out).mono ?_
        rintro e w5 ⟨rfl, hb⟩
        replace HE := Lib.hid (HE.out.step hb)
        replace HX := Lib.hid (HX.out.below hb)
        clear hb k0 k1 k2 k3 k4 k5 k6 k7 k8 k9 k10 k11
        obtain ⟨⟨k0, k1, k2, k3, k4, k5⟩, ⟨k6, k7, k8, k9, k10, k11⟩⟩ := HE.out.box.load
        have HI := Lib.hid (ls2 (t := 22) HX.out HCX.out HX.out HCX.out)
        have HEA := Lib.hid (HE.out.step ((Below.refl w5.heap.size w5).alloc (Nat.le_refl _) (.cells #[.slice pX X.length cX, .slice pX X.length cX] 22)))
        go_wp2_with fail
        refine (HOZ.out _ _ HEA.out.tab (HR.out.below HEA.out.bel) HI.out).mono ?_
        rintro e w6 ⟨rfl, hb⟩
        have hbe := ((Below.refl w5.heap.size w5).alloc (Nat.le_refl _) (.cells #[.slice pX X.length cX, .slice pX X.length cX] 22)).trans (hb.mono (by simp))
        replace HE := Lib.hid (HE.out.step hbe)
        replace HX := Lib.hid (HX.out.below hbe)
        clear hb hbe HI HEA k0 k1 k2 k3 k4 k5 k6 k7 k8 k9 k10 k11
        go_wp2_with fail
        refine (awake16_any _ (HR.out.below HE.out.bel)).mono ?_
        rintro e w7 ⟨rfl, hb⟩
        replace HE := Lib.hid (HE.out.step hb)
        replace HX := Lib.hid (HX.out.below hb)
        clear hb
        obtain ⟨⟨k0, k1, k2, k3, k4, k5⟩, ⟨k6, k7, k8, k9, k10, k11⟩⟩ := HE.out.box.load
        go_wp2_with fail
        refine (HOB.out _ HE.out.tab (HR.out.below HE.out.bel) HX.out).mono ?_
        rintro e w8 ⟨rfl, hb⟩
        have HBZ := Lib.hid (HE.out.step hb).bel
        clear hb k0 k1 k2 k3 k4 k5 k6 k7 k8 k9 k10 k11
        go_wp2
        go_ret
        exact ⟨rfl, HBZ.out⟩

end Go.Proofs.YtiafhifbgdkgaaaDoor
